/- The law PrimBack at a word that fits. -/
import Derived.Test.YthelmmdbgmdgeaaDoorBackLem
namespace Go.Proofs.YthelmmdbgmdgeaaDoor
open Go.ChangeShapes Go.WideShapes Go.ChangeAt Go.RowKit

set_option maxRecDepth 100000 in
set_option maxHeartbeats 1000000 in
theorem back_fit (p x ahead fill : Int) (A s : Nat) (w : World) (h : KT w) (hx0 : 0 ≤ x) (hx1 : x < 18446744073709551616) (_hf0 : 0 ≤ fill) (_hf1 : fill ≤ 255)
    (hT : ahead.tmod 9 = A) (hA : A ≤ 8) (hs : sz p = s) (h4 : s = 1 ∨ s = 2 ∨ s = 4 ∨ s = 8) (hft : fitsF (sz p) (rd p) x = true) :
    Calls Tryd.prog 4 #[.int .i64 p, .int .u64 x, .int .i64 ahead, .int .u8 fill] w fun e w' => e = .returned (.bool true) ∧ Below w.heap.size w w' := by
  have B := Below.refl w.heap.size w
  have h00 := h
  have c1 : sz 6 = 2 := rfl
  have c2 : fitsF (sz 6) (rd 6) 513 = true := by decide
  have c3 : fitsF 2 (rd 6) 513 = true := by decide
  have q4 : (0 : Int) ≤ 513 := by decide
  have q5 : (513 : Int) < 18446744073709551616 := by decide
  go_enter Tryd.func4, Tryd.ntmps4
  go_wp2_with (first
    | (go_at_call 8; refine (Fits_any _ _ _ h (by assumption) (by assumption)).mono ?_; rintro e w' ⟨rfl, hbl⟩; have B := B.trans (hbl.mono B.size); have h := h.below h.pos hbl)
    | (go_at_call 9; refine (size_any _ _ h).mono ?_; rintro e w' ⟨rfl, hbl⟩; have B := B.trans (hbl.mono B.size); have h := h.below h.pos hbl))
  have R0 := two_rows w' s x
  have gb0 : w.heap.size ≤ w'.heap.size := B.size
  have B1 : Below w.heap.size w (w'.alloc (.cells #[.string { data := #[] }, .string { data := #[] }] 29)) := B.alloc gb0 _
  generalize w'.heap.size = gb at *
  generalize w'.alloc (.cells #[.string { data := #[] }, .string { data := #[] }] 29) = W1 at *
  go_loopw [11] (fun i wr => ∃ k : Nat, k ≤ 2 ∧ i = .int .i64 k ∧ Below w.heap.size w wr ∧ wr.rowIs gb 29 2 (fun j => .string (strK s x k j))) (fun i _ => 2 - (intOf i).toNat)
  case atStart => exact ⟨0, by omega, rfl, B1, R0⟩
  case round =>
    rename World => wo
    obtain ⟨k, hk, rfl, HB, HR⟩ := hrel
    by_cases hlt : k < 2
    · have ec : ((A + s + 3 : Nat) : Int) = (A : Int) + (s : Int) + 3 := by omega
      have hmk := fun w => run_make_row' (P := Tryd.prog) 30 5 (.int .u8 0) 1 Tryd.underlying30 info5 rfl .i64 .i64 (A + s + 3) (by omega) (by omega) w
      simp only [ec] at hmk
      have rm := World.rowIs_made wo (.int .u8 0) (A + s + 3) 5
      have gz : gb < wo.heap.size := HR.lt
      have KW : KT wo := h00.below h00.pos HB
      have HB' : Hid (Below w.heap.size w wo) := HB
      have HR' : Hid (wo.rowIs gb 29 2 (fun j => .string (strK s x k j))) := HR
      clear HB HR
      go_wp2_with fail
      have b0 := bel1 wo (.cells (madeCells #[.int .u8 0] (A + s + 3)) 5)
      generalize wo.alloc (.cells (madeCells #[.int .u8 0] (A + s + 3)) 5) = WM at *
      clear hmk
      go_loopw [48] (fun i wf => ∃ m : Nat, m ≤ A + s + 3 ∧ i = .int .i64 m ∧ Below wo.heap.size wo wf ∧ wf.rowIs wo.heap.size 5 (A + s + 3) (fun j => if j < m then .int .u8 fill else .int .u8 0)) (fun i _ => A + s + 3 - (intOf i).toNat)
      case atStart => exact ⟨0, by omega, rfl, b0, rm.congr fun i _ => by simp⟩
      case round =>
        rename World => wf
        obtain ⟨m, hm, rfl, HF, RF⟩ := hrel
        clear rm b0
        by_cases hlm : m < A + s + 3
        · have im : (m : Int) < (A : Int) + (s : Int) + 3 := by omega
          have cf := RF.cell hlm
          have ff := RF.frozen m
          go_wp2
          go_roundw
          case rel =>
            refine ⟨m + 1, by omega, by go_num, HF.setCell (Nat.le_refl _) _, (RF.set m _).congr fun i _ => ?_⟩
            by_cases e : i = m
            · rw [if_pos e, if_pos (by omega)]
            · rw [if_neg e]
              by_cases e2 : i < m
              · rw [if_pos e2, if_pos (by omega)]
              · rw [if_neg e2, if_neg (by omega)]
          case measure => simp [intOf]; omega
        · have RF2 : wf.rowIs wo.heap.size 5 (A + s + 3) (fun _ => .int .u8 fill) := RF.congr fun i hi => by rw [if_pos (by omega)]
          have KF : KT wf := KW.below KW.pos HF
          have gf : wo.heap.size < wf.heap.size := RF.lt
          have ho : (k : Int) = if decide (k = 1) then 1 else 0 := by
            have : k = 0 ∨ k = 1 := by omega
            rcases this with rfl | rfl <;> rfl
          have HO : Hid ((k : Int) = if decide (k = 1) then 1 else 0) := ho
          clear ho RF
          generalize hhi : decide (k = 1) = hi at *
          go_wp2_with fail
          refine (Put_ok wo.heap.size 0 (A + s + 3) (A + s + 3) A p k x hi s wf KF HO.out hs h4 hx0 hx1 hft (fun j hj => ⟨_, by simpa using RF2.cell (i := A + j) (by omega)⟩) (fun j _ => by simpa using RF2.frozen (A + j)) (by omega) (by omega) gf).mono ?_
          rintro e wp ⟨rfl, HP⟩
          have RP := rowIs_below (rowIs_setBytes hi s x (0 + A) RF2 s) HP (by omega)
          have BP : Below wo.heap.size wo wp := (below_setCells (Nat.le_refl _) _ _ _ HF).trans (HP.mono (Nat.le_of_lt gf))
          have KP : KT wp := KW.below KW.pos BP
          simp only [Nat.zero_add] at RP
          clear HP RF2 HF KF hlm
          have hft2 : fitsF s (rd p) x = true := by rw [← hs]; exact hft
          have sn0 : ((s : Int) == 0) = false := by simp; omega
          go_wp2_with (go_at_call 8; refine (Fits_any _ _ _ KP hx0 hx1).mono ?_; rintro e w5 ⟨rfl, hbl5⟩)
          have R5 := rowIs_below RP hbl5 (by have := RP.lt; omega)
          have B5 : Below wo.heap.size wo w5 := BP.trans (hbl5.mono BP.size)
          have K5 : KT w5 := KP.below KP.pos hbl5
          have WB : wordF s (rd p) (accF hi s (byteF hi s x) s) = x := by rw [acc_bytes hi s h4 x, word_back s (rd p) x hft2]
          clear RP BP KP hbl5
          refine (Get_ok wo.heap.size 0 (A + s + 3) (A + s + 3) A p k hi s (byteF hi s x) w5 K5 HO.out hs h4 (byteF_bd hi s x) (fun j hj => by have := R5.cell (i := A + j) (by omega); rw [if_pos (by omega), show A + j - A = j by omega] at this; simpa using this) (by omega) (by omega) R5.lt).mono ?_
          rintro e w6 ⟨rfl, hbl6⟩
          rw [WB]
          have R6 := rowIs_below R5 hbl6 R5.lt
          have B6 : Below wo.heap.size wo w6 := B5.trans (hbl6.mono B5.size)
          clear R5 B5 K5 hbl6 WB
          have gne : ¬ gb = wo.heap.size := by omega
          have z6 := B6.size
          have RB := rowIs_below HR'.out B6 gz
          go_wp2_with fail
          go_loop [95] (fun i => ∃ m : Nat, m ≤ A + s + 3 ∧ i = .int .i64 m) (fun i => A + s + 3 - (intOf i).toNat)
          case atStart => exact ⟨0, by omega, rfl⟩
          case round =>
            obtain ⟨m, hm2, rfl⟩ := hrel
            by_cases hl3 : m < A + s + 3
            · have cf := R6.cell hl3
              have Im : (m : Int) < (A : Int) + (s : Int) + 3 := by omega
              by_cases g1 : m < A
              · rw [if_neg (by omega)] at cf
                have G1 : (m : Int) < (A : Int) := by omega
                go_wp2
                go_round
                case rel => exact ⟨m + 1, by omega, by go_num⟩
                case measure => simp [intOf]; omega
              · have G1 : ¬ (m : Int) < (A : Int) := by omega
                have G1' : decide ((m : Int) < (A : Int)) = false := decide_eq_false G1
                by_cases g2 : A + s ≤ m
                · rw [if_neg (by omega)] at cf
                  have G2 : (A : Int) + (s : Int) ≤ (m : Int) := by omega
                  go_wp2
                  go_round
                  case rel => exact ⟨m + 1, by omega, by go_num⟩
                  case measure => simp [intOf]; omega
                · have G2 : decide ((A : Int) + (s : Int) ≤ (m : Int)) = false := decide_eq_false (by omega)
                  go_wp2
                  go_round
                  case rel => exact ⟨m + 1, by omega, by go_num⟩
                  case measure => simp [intOf]; omega
            · have hcv : (convert 30 9 (.slice (some ⟨wo.heap.size, A, none⟩) s (A + s + 3 - A))).run Tryd.prog w6 = .ok (.string (strOfNums (bytesI hi s x))) w6 :=
                run_convert_bytes_arg w6 30 5 Tryd.underlying30 Tryd.underlying5 wo.heap.size A s _ (bytesI hi s x) (by simp [bytesI]) (fun i hi' => by
                  have := R6.cell (i := A + i) (by omega)
                  rw [if_pos (by omega), show A + i - A = i by omega] at this
                  rw [this]; simp [bytesI, hi']) 9 Tryd.underlying9
              have cb := RB.cell hlt
              have fb := RB.frozen k
              have lk : (k : Int) < 2 := by omega
              go_wp2
              go_roundw
              case rel =>
                refine ⟨k + 1, by omega, by go_num, (HB'.out.trans (B6.mono (by have := HB'.out.size; omega))).setCell (by omega) _, (RB.set k _).congr fun i hi2 => ?_⟩
                by_cases e : i = k
                · subst e; rw [if_pos rfl]; unfold strK; rw [if_pos (by omega), hhi]
                · rw [if_neg e]; unfold strK
                  by_cases e2 : i < k
                  · rw [if_pos e2, if_pos (by omega)]
                  · rw [if_neg e2, if_neg (by omega)]
              case measure => simp [intOf]; omega
    · obtain rfl : k = 2 := by omega
      have C0 : wo.cell? ⟨gb, 0, none⟩ = some (.string (strOfNums (bytesI false s x))) := HR.cell (i := 0) (by omega)
      have C1 : wo.cell? ⟨gb, 1, none⟩ = some (.string (strOfNums (bytesI true s x))) := HR.cell (i := 1) (by omega)
      have Z0 := str_size false s x
      have Z1 := str_size true s x
      have Ix0 : ∀ (i : Nat) (w : World), i < s → (Instr.index 9 (.string (strOfNums (bytesI false s x))) (.int .i64 (i : Int))).run Tryd.prog w = .ok (.int .u8 (byteF false s x i)) w := by
        intro i w hi
        rw [run_index_string w 9 _ _ _ Tryd.underlying9, dif_pos (by omega)]
        simp only [Int.toNat_natCast]
        rw [str_get]
      have Ix1 : ∀ (i : Nat) (w : World), i < s → (Instr.index 9 (.string (strOfNums (bytesI true s x))) (.int .i64 ((s : Int) - 1 - (i : Int)))).run Tryd.prog w = .ok (.int .u8 (byteF false s x i)) w := by
        intro i w hi
        have e : (s : Int) - 1 - (i : Int) = ((s - 1 - i : Nat) : Int) := by omega
        rw [e, run_index_string w 9 _ _ _ Tryd.underlying9, dif_pos (by omega)]
        simp only [Int.toNat_natCast]
        rw [str_get, byte_turn s x i hi]
      have gz : gb < wo.heap.size := HR.lt
      generalize strOfNums (bytesI false s x) = S0 at *
      generalize strOfNums (bytesI true s x) = S1 at *
      go_wp2_with fail
      go_loopw [18] (fun _ wr => ∃ pos n : Nat, wr = (wo.drewN n).iter S0 pos) (fun _ wr => S0.size - wr.iterPos wo.heap.size)
      case atStart => exact ⟨0, 0, rfl⟩
      case round =>
        obtain ⟨pos, n, rfl⟩ := hrel
        by_cases hp : pos < S0.size
        · have hnx : ∀ ty, (Instr.next (.pointer (some ⟨wo.heap.size, 0, none⟩)) true ty).run Tryd.prog ((wo.drewN n).iter S0 pos) = _ := fun ty => run_next_any (wo.drewN n) S0 pos ty hp
          have hwd := width_pos S0 pos hp
          have I0 := fun w => Ix0 pos w (by omega)
          have I1 := fun w => Ix1 pos w (by omega)
          have D0 : ((wo.drewN n).iter S0 (pos + (Utf8.decode S0 pos).2)).cell? ⟨gb, 0, none⟩ = some (.string S0) := by show ((wo.drewN n).alloc _).cell? _ = _; rw [World.cell?_alloc_past _ _ _ (by exact gz)]; exact C0
          have D1 : ((wo.drewN n).iter S0 (pos + (Utf8.decode S0 pos).2)).cell? ⟨gb, 1, none⟩ = some (.string S1) := by show ((wo.drewN n).alloc _).cell? _ = _; rw [World.cell?_alloc_past _ _ _ (by exact gz)]; exact C1
          go_wp2_with fail
          go_quiet (fail)
          go_wp2
          go_roundw
          case rel => exact ⟨pos + (Utf8.decode S0 pos).2, n + nq, by simp [World.iter, World.alloc, World.drewN, Nat.add_assoc]⟩
          case measure =>
            have e1 : (((wo.drewN n).iter S0 (pos + (Utf8.decode S0 pos).2)).drewN nq).iterPos wo.heap.size = pos + (Utf8.decode S0 pos).2 := World.iterPos_iter (wo.drewN n) S0 _
            have e2 : ((wo.drewN n).iter S0 pos).iterPos wo.heap.size = pos := World.iterPos_iter (wo.drewN n) S0 _
            rw [e1, e2]; omega
        · have hnx : ∀ ty, (Instr.next (.pointer (some ⟨wo.heap.size, 0, none⟩)) true ty).run Tryd.prog ((wo.drewN n).iter S0 pos) = _ := fun ty => run_next_end (wo.drewN n) S0 pos ty hp
          have hmk8 := fun w => run_make_row' (P := Tryd.prog) 30 5 (.int .u8 0) 1 Tryd.underlying30 info5 rfl .i64 .i64 8 (by omega) (by omega) w
          have BI : Below w.heap.size w ((wo.drewN n).iter S0 pos) := by
            have : Below w.heap.size w (wo.drewN n) := ⟨HB.os, HB.tape, HB.output, HB.size, HB.block⟩
            exact this.alloc this.size _
          simp only [Int.cast_ofNat_Int] at hmk8
          clear C0 C1 Ix0 Ix1
          go_wp2_with fail
          clear hnx
          generalize (wo.drewN n).iter S0 pos = WI at *
          have rm8 := World.rowIs_made WI (.int .u8 0) 8 5
          have b8 := bel1 WI (.cells (madeCells #[.int .u8 0] 8) 5)
          have KI : KT WI := h00.below h00.pos BI
          generalize WI.alloc (.cells (madeCells #[.int .u8 0] 8) 5) = WM at *
          go_loopw [147] (fun i wf => ∃ m : Nat, m ≤ 8 ∧ i = .int .i64 m ∧ Below WI.heap.size WI wf ∧ wf.rowIs WI.heap.size 5 8 (fun j => if j < m then .int .u8 (vF fill j) else .int .u8 0)) (fun i _ => 8 - (intOf i).toNat)
          case atStart => exact ⟨0, by omega, rfl, b8, rm8.congr fun i _ => by simp⟩
          case round =>
            rename World => wf
            obtain ⟨m, hm, rfl, HF, RF⟩ := hrel
            clear rm8 b8
            by_cases hlm : m < 8
            · have im : (m : Int) < 8 := by omega
              have cf := RF.cell hlm
              have ff := RF.frozen m
              go_wp2
              go_roundw
              case rel =>
                refine ⟨m + 1, by omega, by go_num, HF.setCell (Nat.le_refl _) _, (RF.set m _).congr fun i _ => ?_⟩
                by_cases e : i = m
                · subst e; rw [if_pos rfl, if_pos (by omega)]; rfl
                · rw [if_neg e]
                  by_cases e2 : i < m
                  · rw [if_pos e2, if_pos (by omega)]
                  · rw [if_neg e2, if_neg (by omega)]
              case measure => simp [intOf]; omega
            · have R8 : wf.rowIs WI.heap.size 5 8 (fun j => .int .u8 (vF fill j)) := RF.congr fun i hi => by rw [if_pos (by omega)]
              have K8 : KT wf := KI.below KI.pos HF
              have B8 : Below w.heap.size w wf := BI.trans (HF.mono BI.size)
              have sn0 : ((s : Int) == 0) = false := by simp; omega
              have ssp : 0 < (s : Int) := by omega
              have ac := acc_bd false s h4 (vF fill) (vF_bd fill) s (Nat.le_refl _)
              have kk : KOk s (rd p) := by rw [← hs]; exact kok p
              have wb := wordF_bd s (rd p) (accF false s (vF fill) s) kk
              have wfit := word_fits s (rd p) (accF false s (vF fill) s) kk (by omega)
              have cs0 := cmpF_self s (rd p) (wordF s (rd p) (accF false s (vF fill) s))
              clear RF HF BI KI
              go_wp2_with fail
              refine (Get_0 WI.heap.size 8 8 p s (vF fill) wf K8 hs h4 (vF_bd fill) (fun j hj => R8.cell (i := j) (by omega)) (by omega) (by omega) R8.lt).mono ?_
              rintro e w9 ⟨rfl, hbl9⟩
              have K9 := K8.below K8.pos hbl9
              have B9 := B8.trans (hbl9.mono B8.size)
              clear R8 K8 B8 hbl9
              generalize wordF s (rd p) (accF false s (vF fill) s) = G at *
              have wb0 := wb.1
              have wb1 := wb.2
              go_wp2_with (first
                | (go_at_call 8; refine (Fits_any _ _ _ K9 wb0 wb1).mono ?_; rintro e w10 ⟨rfl, hbl10⟩; have B10 := B9.trans (hbl10.mono B9.size); have K10 := K9.below K9.pos hbl10)
                | (go_at_call 7; refine (Compare_any _ _ _ _ K10 wb0 wb1 wb0 wb1).mono ?_; rintro e w11 ⟨rfl, hbl11⟩; have B11 := B10.trans (hbl11.mono B10.size)))
              go_ret
              exact ⟨rfl, B11⟩
set_option maxRecDepth 100000 in
set_option maxHeartbeats 1000000 in
theorem back_fit_neg (p x ahead fill : Int) (A s : Nat) (w : World) (h : KT w) (hx0 : 0 ≤ x) (hx1 : x < 18446744073709551616) (_hf0 : 0 ≤ fill) (_hf1 : fill ≤ 255)
    (hT : ahead.tmod 9 = -(A : Int)) (hA0 : 0 < A) (hA : A ≤ 8) (hs : sz p = s) (h4 : s = 1 ∨ s = 2 ∨ s = 4 ∨ s = 8) (hft : fitsF (sz p) (rd p) x = true) :
    Calls Tryd.prog 4 #[.int .i64 p, .int .u64 x, .int .i64 ahead, .int .u8 fill] w fun e w' => e = .returned (.bool true) ∧ Below w.heap.size w w' := by
  have B := Below.refl w.heap.size w
  have h00 := h
  have c1 : sz 6 = 2 := rfl
  have c2 : fitsF (sz 6) (rd 6) 513 = true := by decide
  have c3 : fitsF 2 (rd 6) 513 = true := by decide
  have q4 : (0 : Int) ≤ 513 := by decide
  have q5 : (513 : Int) < 18446744073709551616 := by decide
  go_enter Tryd.func4, Tryd.ntmps4
  go_wp2_with (first
    | (go_at_call 8; refine (Fits_any _ _ _ h (by assumption) (by assumption)).mono ?_; rintro e w' ⟨rfl, hbl⟩; have B := B.trans (hbl.mono B.size); have h := h.below h.pos hbl)
    | (go_at_call 9; refine (size_any _ _ h).mono ?_; rintro e w' ⟨rfl, hbl⟩; have B := B.trans (hbl.mono B.size); have h := h.below h.pos hbl))
  have R0 := two_rows w' s x
  have gb0 : w.heap.size ≤ w'.heap.size := B.size
  have B1 : Below w.heap.size w (w'.alloc (.cells #[.string { data := #[] }, .string { data := #[] }] 29)) := B.alloc gb0 _
  generalize w'.heap.size = gb at *
  generalize w'.alloc (.cells #[.string { data := #[] }, .string { data := #[] }] 29) = W1 at *
  go_loopw [11] (fun i wr => ∃ k : Nat, k ≤ 2 ∧ i = .int .i64 k ∧ Below w.heap.size w wr ∧ wr.rowIs gb 29 2 (fun j => .string (strK s x k j))) (fun i _ => 2 - (intOf i).toNat)
  case atStart => exact ⟨0, by omega, rfl, B1, R0⟩
  case round =>
    rename World => wo
    obtain ⟨k, hk, rfl, HB, HR⟩ := hrel
    by_cases hlt : k < 2
    · have ec : ((A + s + 3 : Nat) : Int) = (A : Int) + (s : Int) + 3 := by omega
      have hmk := fun w => run_make_row' (P := Tryd.prog) 30 5 (.int .u8 0) 1 Tryd.underlying30 info5 rfl .i64 .i64 (A + s + 3) (by omega) (by omega) w
      simp only [ec] at hmk
      have rm := World.rowIs_made wo (.int .u8 0) (A + s + 3) 5
      have gz : gb < wo.heap.size := HR.lt
      have KW : KT wo := h00.below h00.pos HB
      have HB' : Hid (Below w.heap.size w wo) := HB
      have HR' : Hid (wo.rowIs gb 29 2 (fun j => .string (strK s x k j))) := HR
      clear HB HR
      go_wp2_with fail
      have b0 := bel1 wo (.cells (madeCells #[.int .u8 0] (A + s + 3)) 5)
      generalize wo.alloc (.cells (madeCells #[.int .u8 0] (A + s + 3)) 5) = WM at *
      clear hmk
      go_loopw [48] (fun i wf => ∃ m : Nat, m ≤ A + s + 3 ∧ i = .int .i64 m ∧ Below wo.heap.size wo wf ∧ wf.rowIs wo.heap.size 5 (A + s + 3) (fun j => if j < m then .int .u8 fill else .int .u8 0)) (fun i _ => A + s + 3 - (intOf i).toNat)
      case atStart => exact ⟨0, by omega, rfl, b0, rm.congr fun i _ => by simp⟩
      case round =>
        rename World => wf
        obtain ⟨m, hm, rfl, HF, RF⟩ := hrel
        clear rm b0
        by_cases hlm : m < A + s + 3
        · have im : (m : Int) < (A : Int) + (s : Int) + 3 := by omega
          have cf := RF.cell hlm
          have ff := RF.frozen m
          go_wp2
          go_roundw
          case rel =>
            refine ⟨m + 1, by omega, by go_num, HF.setCell (Nat.le_refl _) _, (RF.set m _).congr fun i _ => ?_⟩
            by_cases e : i = m
            · rw [if_pos e, if_pos (by omega)]
            · rw [if_neg e]
              by_cases e2 : i < m
              · rw [if_pos e2, if_pos (by omega)]
              · rw [if_neg e2, if_neg (by omega)]
          case measure => simp [intOf]; omega
        · have RF2 : wf.rowIs wo.heap.size 5 (A + s + 3) (fun _ => .int .u8 fill) := RF.congr fun i hi => by rw [if_pos (by omega)]
          have KF : KT wf := KW.below KW.pos HF
          have gf : wo.heap.size < wf.heap.size := RF.lt
          have ho : (k : Int) = if decide (k = 1) then 1 else 0 := by
            have : k = 0 ∨ k = 1 := by omega
            rcases this with rfl | rfl <;> rfl
          have HO : Hid ((k : Int) = if decide (k = 1) then 1 else 0) := ho
          clear ho RF
          generalize hhi : decide (k = 1) = hi at *
          go_wp2_with fail
          refine (Put_ok wo.heap.size 0 (A + s + 3) (A + s + 3) A p k x hi s wf KF HO.out hs h4 hx0 hx1 hft (fun j hj => ⟨_, by simpa using RF2.cell (i := A + j) (by omega)⟩) (fun j _ => by simpa using RF2.frozen (A + j)) (by omega) (by omega) gf).mono ?_
          rintro e wp ⟨rfl, HP⟩
          have RP := rowIs_below (rowIs_setBytes hi s x (0 + A) RF2 s) HP (by omega)
          have BP : Below wo.heap.size wo wp := (below_setCells (Nat.le_refl _) _ _ _ HF).trans (HP.mono (Nat.le_of_lt gf))
          have KP : KT wp := KW.below KW.pos BP
          simp only [Nat.zero_add] at RP
          clear HP RF2 HF KF hlm
          have hft2 : fitsF s (rd p) x = true := by rw [← hs]; exact hft
          have sn0 : ((s : Int) == 0) = false := by simp; omega
          go_wp2_with (go_at_call 8; refine (Fits_any _ _ _ KP hx0 hx1).mono ?_; rintro e w5 ⟨rfl, hbl5⟩)
          have R5 := rowIs_below RP hbl5 (by have := RP.lt; omega)
          have B5 : Below wo.heap.size wo w5 := BP.trans (hbl5.mono BP.size)
          have K5 : KT w5 := KP.below KP.pos hbl5
          have WB : wordF s (rd p) (accF hi s (byteF hi s x) s) = x := by rw [acc_bytes hi s h4 x, word_back s (rd p) x hft2]
          clear RP BP KP hbl5
          refine (Get_ok wo.heap.size 0 (A + s + 3) (A + s + 3) A p k hi s (byteF hi s x) w5 K5 HO.out hs h4 (byteF_bd hi s x) (fun j hj => by have := R5.cell (i := A + j) (by omega); rw [if_pos (by omega), show A + j - A = j by omega] at this; simpa using this) (by omega) (by omega) R5.lt).mono ?_
          rintro e w6 ⟨rfl, hbl6⟩
          rw [WB]
          have R6 := rowIs_below R5 hbl6 R5.lt
          have B6 : Below wo.heap.size wo w6 := B5.trans (hbl6.mono B5.size)
          clear R5 B5 K5 hbl6 WB
          have gne : ¬ gb = wo.heap.size := by omega
          have z6 := B6.size
          have RB := rowIs_below HR'.out B6 gz
          go_wp2_with fail
          go_loop [95] (fun i => ∃ m : Nat, m ≤ A + s + 3 ∧ i = .int .i64 m) (fun i => A + s + 3 - (intOf i).toNat)
          case atStart => exact ⟨0, by omega, rfl⟩
          case round =>
            obtain ⟨m, hm2, rfl⟩ := hrel
            by_cases hl3 : m < A + s + 3
            · have cf := R6.cell hl3
              have Im : (m : Int) < (A : Int) + (s : Int) + 3 := by omega
              by_cases g1 : m < A
              · rw [if_neg (by omega)] at cf
                have G1 : (m : Int) < (A : Int) := by omega
                go_wp2
                go_round
                case rel => exact ⟨m + 1, by omega, by go_num⟩
                case measure => simp [intOf]; omega
              · have G1 : ¬ (m : Int) < (A : Int) := by omega
                have G1' : decide ((m : Int) < (A : Int)) = false := decide_eq_false G1
                by_cases g2 : A + s ≤ m
                · rw [if_neg (by omega)] at cf
                  have G2 : (A : Int) + (s : Int) ≤ (m : Int) := by omega
                  go_wp2
                  go_round
                  case rel => exact ⟨m + 1, by omega, by go_num⟩
                  case measure => simp [intOf]; omega
                · have G2 : decide ((A : Int) + (s : Int) ≤ (m : Int)) = false := decide_eq_false (by omega)
                  go_wp2
                  go_round
                  case rel => exact ⟨m + 1, by omega, by go_num⟩
                  case measure => simp [intOf]; omega
            · have hcv : (convert 30 9 (.slice (some ⟨wo.heap.size, A, none⟩) s (A + s + 3 - A))).run Tryd.prog w6 = .ok (.string (strOfNums (bytesI hi s x))) w6 :=
                run_convert_bytes_arg w6 30 5 Tryd.underlying30 Tryd.underlying5 wo.heap.size A s _ (bytesI hi s x) (by simp [bytesI]) (fun i hi' => by
                  have := R6.cell (i := A + i) (by omega)
                  rw [if_pos (by omega), show A + i - A = i by omega] at this
                  rw [this]; simp [bytesI, hi']) 9 Tryd.underlying9
              have cb := RB.cell hlt
              have fb := RB.frozen k
              have lk : (k : Int) < 2 := by omega
              go_wp2
              go_roundw
              case rel =>
                refine ⟨k + 1, by omega, by go_num, (HB'.out.trans (B6.mono (by have := HB'.out.size; omega))).setCell (by omega) _, (RB.set k _).congr fun i hi2 => ?_⟩
                by_cases e : i = k
                · subst e; rw [if_pos rfl]; unfold strK; rw [if_pos (by omega), hhi]
                · rw [if_neg e]; unfold strK
                  by_cases e2 : i < k
                  · rw [if_pos e2, if_pos (by omega)]
                  · rw [if_neg e2, if_neg (by omega)]
              case measure => simp [intOf]; omega
    · obtain rfl : k = 2 := by omega
      have C0 : wo.cell? ⟨gb, 0, none⟩ = some (.string (strOfNums (bytesI false s x))) := HR.cell (i := 0) (by omega)
      have C1 : wo.cell? ⟨gb, 1, none⟩ = some (.string (strOfNums (bytesI true s x))) := HR.cell (i := 1) (by omega)
      have Z0 := str_size false s x
      have Z1 := str_size true s x
      have Ix0 : ∀ (i : Nat) (w : World), i < s → (Instr.index 9 (.string (strOfNums (bytesI false s x))) (.int .i64 (i : Int))).run Tryd.prog w = .ok (.int .u8 (byteF false s x i)) w := by
        intro i w hi
        rw [run_index_string w 9 _ _ _ Tryd.underlying9, dif_pos (by omega)]
        simp only [Int.toNat_natCast]
        rw [str_get]
      have Ix1 : ∀ (i : Nat) (w : World), i < s → (Instr.index 9 (.string (strOfNums (bytesI true s x))) (.int .i64 ((s : Int) - 1 - (i : Int)))).run Tryd.prog w = .ok (.int .u8 (byteF false s x i)) w := by
        intro i w hi
        have e : (s : Int) - 1 - (i : Int) = ((s - 1 - i : Nat) : Int) := by omega
        rw [e, run_index_string w 9 _ _ _ Tryd.underlying9, dif_pos (by omega)]
        simp only [Int.toNat_natCast]
        rw [str_get, byte_turn s x i hi]
      have gz : gb < wo.heap.size := HR.lt
      generalize strOfNums (bytesI false s x) = S0 at *
      generalize strOfNums (bytesI true s x) = S1 at *
      go_wp2_with fail
      go_loopw [18] (fun _ wr => ∃ pos n : Nat, wr = (wo.drewN n).iter S0 pos) (fun _ wr => S0.size - wr.iterPos wo.heap.size)
      case atStart => exact ⟨0, 0, rfl⟩
      case round =>
        obtain ⟨pos, n, rfl⟩ := hrel
        by_cases hp : pos < S0.size
        · have hnx : ∀ ty, (Instr.next (.pointer (some ⟨wo.heap.size, 0, none⟩)) true ty).run Tryd.prog ((wo.drewN n).iter S0 pos) = _ := fun ty => run_next_any (wo.drewN n) S0 pos ty hp
          have hwd := width_pos S0 pos hp
          have I0 := fun w => Ix0 pos w (by omega)
          have I1 := fun w => Ix1 pos w (by omega)
          have D0 : ((wo.drewN n).iter S0 (pos + (Utf8.decode S0 pos).2)).cell? ⟨gb, 0, none⟩ = some (.string S0) := by show ((wo.drewN n).alloc _).cell? _ = _; rw [World.cell?_alloc_past _ _ _ (by exact gz)]; exact C0
          have D1 : ((wo.drewN n).iter S0 (pos + (Utf8.decode S0 pos).2)).cell? ⟨gb, 1, none⟩ = some (.string S1) := by show ((wo.drewN n).alloc _).cell? _ = _; rw [World.cell?_alloc_past _ _ _ (by exact gz)]; exact C1
          go_wp2_with fail
          go_quiet (fail)
          go_wp2
          go_roundw
          case rel => exact ⟨pos + (Utf8.decode S0 pos).2, n + nq, by simp [World.iter, World.alloc, World.drewN, Nat.add_assoc]⟩
          case measure =>
            have e1 : (((wo.drewN n).iter S0 (pos + (Utf8.decode S0 pos).2)).drewN nq).iterPos wo.heap.size = pos + (Utf8.decode S0 pos).2 := World.iterPos_iter (wo.drewN n) S0 _
            have e2 : ((wo.drewN n).iter S0 pos).iterPos wo.heap.size = pos := World.iterPos_iter (wo.drewN n) S0 _
            rw [e1, e2]; omega
        · have hnx : ∀ ty, (Instr.next (.pointer (some ⟨wo.heap.size, 0, none⟩)) true ty).run Tryd.prog ((wo.drewN n).iter S0 pos) = _ := fun ty => run_next_end (wo.drewN n) S0 pos ty hp
          have hmk8 := fun w => run_make_row' (P := Tryd.prog) 30 5 (.int .u8 0) 1 Tryd.underlying30 info5 rfl .i64 .i64 8 (by omega) (by omega) w
          have BI : Below w.heap.size w ((wo.drewN n).iter S0 pos) := by
            have : Below w.heap.size w (wo.drewN n) := ⟨HB.os, HB.tape, HB.output, HB.size, HB.block⟩
            exact this.alloc this.size _
          simp only [Int.cast_ofNat_Int] at hmk8
          clear C0 C1 Ix0 Ix1
          go_wp2_with fail
          clear hnx
          generalize (wo.drewN n).iter S0 pos = WI at *
          have rm8 := World.rowIs_made WI (.int .u8 0) 8 5
          have b8 := bel1 WI (.cells (madeCells #[.int .u8 0] 8) 5)
          have KI : KT WI := h00.below h00.pos BI
          generalize WI.alloc (.cells (madeCells #[.int .u8 0] 8) 5) = WM at *
          go_loopw [147] (fun i wf => ∃ m : Nat, m ≤ 8 ∧ i = .int .i64 m ∧ Below WI.heap.size WI wf ∧ wf.rowIs WI.heap.size 5 8 (fun j => if j < m then .int .u8 (vF fill j) else .int .u8 0)) (fun i _ => 8 - (intOf i).toNat)
          case atStart => exact ⟨0, by omega, rfl, b8, rm8.congr fun i _ => by simp⟩
          case round =>
            rename World => wf
            obtain ⟨m, hm, rfl, HF, RF⟩ := hrel
            clear rm8 b8
            by_cases hlm : m < 8
            · have im : (m : Int) < 8 := by omega
              have cf := RF.cell hlm
              have ff := RF.frozen m
              go_wp2
              go_roundw
              case rel =>
                refine ⟨m + 1, by omega, by go_num, HF.setCell (Nat.le_refl _) _, (RF.set m _).congr fun i _ => ?_⟩
                by_cases e : i = m
                · subst e; rw [if_pos rfl, if_pos (by omega)]; rfl
                · rw [if_neg e]
                  by_cases e2 : i < m
                  · rw [if_pos e2, if_pos (by omega)]
                  · rw [if_neg e2, if_neg (by omega)]
              case measure => simp [intOf]; omega
            · have R8 : wf.rowIs WI.heap.size 5 8 (fun j => .int .u8 (vF fill j)) := RF.congr fun i hi => by rw [if_pos (by omega)]
              have K8 : KT wf := KI.below KI.pos HF
              have B8 : Below w.heap.size w wf := BI.trans (HF.mono BI.size)
              have sn0 : ((s : Int) == 0) = false := by simp; omega
              have ssp : 0 < (s : Int) := by omega
              have ac := acc_bd false s h4 (vF fill) (vF_bd fill) s (Nat.le_refl _)
              have kk : KOk s (rd p) := by rw [← hs]; exact kok p
              have wb := wordF_bd s (rd p) (accF false s (vF fill) s) kk
              have wfit := word_fits s (rd p) (accF false s (vF fill) s) kk (by omega)
              have cs0 := cmpF_self s (rd p) (wordF s (rd p) (accF false s (vF fill) s))
              clear RF HF BI KI
              go_wp2_with fail
              refine (Get_0 WI.heap.size 8 8 p s (vF fill) wf K8 hs h4 (vF_bd fill) (fun j hj => R8.cell (i := j) (by omega)) (by omega) (by omega) R8.lt).mono ?_
              rintro e w9 ⟨rfl, hbl9⟩
              have K9 := K8.below K8.pos hbl9
              have B9 := B8.trans (hbl9.mono B8.size)
              clear R8 K8 B8 hbl9
              generalize wordF s (rd p) (accF false s (vF fill) s) = G at *
              have wb0 := wb.1
              have wb1 := wb.2
              go_wp2_with (first
                | (go_at_call 8; refine (Fits_any _ _ _ K9 wb0 wb1).mono ?_; rintro e w10 ⟨rfl, hbl10⟩; have B10 := B9.trans (hbl10.mono B9.size); have K10 := K9.below K9.pos hbl10)
                | (go_at_call 7; refine (Compare_any _ _ _ _ K10 wb0 wb1 wb0 wb1).mono ?_; rintro e w11 ⟨rfl, hbl11⟩; have B11 := B10.trans (hbl11.mono B10.size)))
              go_ret
              exact ⟨rfl, B11⟩
end Go.Proofs.YthelmmdbgmdgeaaDoor

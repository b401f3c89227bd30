/- IDr, Sym. -/
import Derived.Test.YtjjhfiddebmgcaaGreatDoorG28
import Derived.Test.YtjjhfiddebmgcaaGreatDoorG19
import Derived.Deep.DeepCutAuto
namespace Go.Proofs.YtjjhfiddebmgcaaGreatDoor
open Go.ChangeShapes Go.WideShapes Go.ChangeAt Go.RowKit Go.Shelf Go.Maps

theorem name_eq {a b : ByteArray} : (a = b) = (a.toList = b.toList) := propext ba_eq
set_option maxRecDepth 20000 in
set_option maxHeartbeats 4000000 in
theorem refPaired_any (c : Df) (f : Fm) (t : Tk) (vo vi : Value) (w : World) (h : D0 w c f t vo vi) :
    Calls Tryz.prog 29 #[.pointer (some ⟨c.B, 0, none⟩), .int .i64 (c.i : Int)] w fun r w' => r = .returned (.bool (if bgO t.op then pairB f.toks c.i t else decide (t.pair = c.i))) ∧ Below w.heap.size w w' := by
  obtain ⟨pc, cc, hT, hU, hC, hO⟩ := h.tk
  have b12 := h.ds.c12
  have hil : (c.i : Int) < f.toks.length := by have := h.il; omega
  have hll := h.ll
  have l1 := hT.load
  obtain ⟨W1, s1, hA, hb1, hz1⟩ := ld_new w t pc cc
  have h1 := h.below hb1
  have b12' := h1.ds.c12
  have a0 : W1.cell? ⟨w.heap.size, 0, none⟩ = some (.int .i64 t.op) := hA.c0
  have a1 : W1.cell? ⟨w.heap.size, 1, none⟩ = some (.string t.name) := hA.c1
  have a20 : W1.cell? ⟨w.heap.size, 20, none⟩ = some (.int .i64 t.pair) := hA.c20
  have cB := refBegins_any t.op W1 hO.op
  replace l1 : Hid _ := ⟨l1⟩
  replace s1 : Hid _ := ⟨s1⟩
  replace h : Hid _ := ⟨h⟩
  replace h1 : Hid _ := ⟨h1⟩
  replace hA : Hid _ := ⟨hA⟩
  replace hb1 : Hid _ := ⟨hb1⟩
  replace hO : Hid _ := ⟨hO⟩
  clear hT hU hC
  cases kb : bgO t.op with
  | false =>
    rw [kb] at cB
    rw [if_neg (by decide)]
    clear kb
    go_enter Tryz.func29, Tryz.ntmps29
    go_wp2_with (first
      | (go_at_call 20; refine cB.mono ?_; rintro _ wq ⟨rfl, e⟩; obtain rfl : W1 = wq := e.symm)
      | (guard_target =~ wpList _ _ _ (Oper.mk _ (Op.load 43 _) _ _ _ _ :: _) _ _; go_must (first | refine wpList_ld 43 _ rfl rfl _ _ rfl l1.out ?_); simp only [pts])
      | (guard_target =~ wpList _ _ _ (Oper.mk _ (Op.store 43 _ _) _ _ _ _ :: _) _ _; go_must (refine wpList_st 43 _ _ rfl rfl _ _ rfl rfl (s1.out _ rfl) ?_); simp only [pts]))
    go_ret
    exact ⟨rb (by rw [Bool.eq_iff_iff]; simp), hb1.out⟩
  | true =>
    rw [kb] at cB
    rw [if_pos rfl]
    suffices hh : Calls Tryz.prog 29 #[.pointer (some ⟨c.B, 0, none⟩), .int .i64 (c.i : Int)] w fun r w' => Ans r (pairB f.toks c.i t = true) ∧ Below w.heap.size w w' from hh.mono fun r w' h => ⟨h.1.same, h.2⟩
    have hw := bgO_i64 kb
    replace kb : Hid _ := ⟨kb⟩
    by_cases hp : (c.i : Int) < t.pair ∧ t.pair < f.toks.length
    · have d1 : decide (t.pair ≤ (c.i : Int)) = false := by simp; omega
      have d2 : decide (t.pair ≥ (f.toks.length : Int)) = false := by simp; omega
      obtain ⟨n, hn⟩ : ∃ n : Nat, t.pair = n := ⟨t.pair.toNat, by omega⟩
      obtain ⟨u, hu⟩ : ∃ u, f.toks[n]? = some u := ⟨f.toks[n]'(by omega), List.getElem?_eq_getElem (by omega)⟩
      obtain ⟨qc, qd, hX, _, _, _⟩ := h1.out.at hu
      have l2 := hX.load
      have hP : Hid (pairB f.toks c.i t = true ↔ u.op = t.op + 1 ∧ u.name.toList = t.name.toList ∧ u.pair = c.i) := ⟨by
        unfold pairB
        rw [hn, Int.toNat_natCast, hu]
        have : (c.i : Int) < n ∧ (n : Int) < f.toks.length := by omega
        simp [this, ← ba_eq, and_assoc]⟩
      have hni : (n : Int) < f.toks.length := by omega
      rw [hn] at a20 d1 d2
      have d3 : decide (n ≤ c.i) = false := by simp; omega
      have d4 : decide (f.toks.length ≤ n) = false := by simp; omega
      replace hn : Hid _ := ⟨hn⟩
      clear l2 hp
      replace hX : Hid _ := ⟨hX⟩
      go_enter Tryz.func29, Tryz.ntmps29
      go_wp2_with (first
        | (go_at_call 20; refine cB.mono ?_; rintro _ wq ⟨rfl, e⟩; obtain rfl : W1 = wq := e.symm)
        | (guard_target =~ wpList _ _ _ (Oper.mk _ (Op.load 43 _) _ _ _ _ :: _) _ _; go_must (first | refine wpList_ld 43 _ rfl rfl _ _ rfl l1.out ?_); simp only [pts])
        | (guard_target =~ wpList _ _ _ (Oper.mk _ (Op.store 43 _ _) _ _ _ _ :: _) _ _; go_must (first | refine wpList_st 43 _ _ rfl rfl _ _ rfl rfl (s1.out _ rfl) ?_); simp only [pts]))
      go_quiet (fail)
      have e12 : (W1.drewN nq).cell? ⟨c.B, 12, none⟩ = some (.slice (some ⟨c.g, c.o, none⟩) f.toks.length c.cp) := b12'
      have e20 : (W1.drewN nq).cell? ⟨w.heap.size, 20, none⟩ = some (.int .i64 n) := a20
      obtain ⟨p, p0, pB, pI, hNe, pc', pl, pk⟩ := clsT (W1.drewN nq)
      have hBl : c.B < (W1.drewN nq).heap.size := h1.out.ds.lt
      have hgl : c.g < (W1.drewN nq).heap.size := h1.out.lg
      have hwl : w.heap.size < (W1.drewN nq).heap.size := by show _ < W1.heap.size; omega
      have f12 := fun θ => (pc' c.B 12 hBl θ).trans e12
      have f20 := fun θ => (pc' w.heap.size 20 hwl θ).trans e20
      have lu := pl c.g _ u qc qd hgl (hX.out.same rfl)
      have HW : Hid (∀ W, p W → Below W1.heap.size W1 W ∧ TkC W w.heap.size 0 t pc cc) := ⟨fun W hW => ⟨(tdr (Below.refl _ _)).trans (pB W hW), hA.out.below (B := W1.heap.size) (by omega) ((tdr (Below.refl _ _)).trans (pB W hW))⟩⟩
      clear pc' pl pk
      go_wp2_with fail
      refine wp_region_lp p (by kernel_rfl) (by kernel_rfl) (fun _ _ d _ _ h => by cases d <;> exact h) p0 fun W hp => ?_
      repeat (first | (guard_target =~ Lx _ _ _ _ (Oper.mk _ (Op.load 43 _) _ _ _ _ :: _) _ _; (first | refine lx_ld lu rfl rfl ?_); simp only [pts]) | (guard_target =~ Lx _ _ _ _ (Oper.mk _ (Op.alloc 43) _ _ _ _ :: _) _ _; refine lx_act (by rfl) (by rfl) ?_; intro K hK; go_simp; refine hK _ _ ⟨⟨_, pI _ ((pB _ hp).trans ((bel1 W _).mono (pB _ hp).size))⟩, rfl⟩ ?_; clear hK K) | (guard_target =~ Lx _ _ _ _ (Oper.mk _ (Op.store 43 _ _) _ _ _ _ :: _) _ _; obtain ⟨W2, s2, hY, hb2, hz2⟩ := ld_new W u qc qd; refine lx_st (s2 _ rfl) ⟨⟨W2, pI _ ((pB _ hp).trans (hb2.mono (pB _ hp).size))⟩, rfl⟩ rfl rfl (by rfl) ?_; clear s2; simp only [pts]) | (refine lx_one rfl ?_; (first | go_big_quiet_skip | (go_big_quiet_want; go_big_quiet_op; go_big_quiet_on)); refine wpQuiet_nil ?_) | (refine lx_skip (by rfl) ?_; simp only [pts]))
      refine lx_done ?_
      obtain ⟨hbW, hTW⟩ := HW.out W hp
      have hA2 := own_tk hTW (Nat.lt_of_lt_of_le (by omega) hbW.size) hb2
      have y0 : W2.cell? ⟨W.heap.size, 0, none⟩ = some (.int .i64 u.op) := hY.c0
      have y1 : W2.cell? ⟨W.heap.size, 1, none⟩ = some (.string u.name) := hY.c1
      have y20 : W2.cell? ⟨W.heap.size, 20, none⟩ = some (.int .i64 u.pair) := hY.c20
      have z0 : W2.cell? ⟨w.heap.size, 0, none⟩ = some (.int .i64 t.op) := hA2.c0
      have z1 : W2.cell? ⟨w.heap.size, 1, none⟩ = some (.string t.name) := hA2.c1
      replace hbW : Hid _ := ⟨hbW⟩
      clear hA2 hY hTW HW lu f12 f20 pI pB
      go_wp2_with fail
      all_goals
        go_ret
        refine ⟨⟨_, rfl, ?_⟩, hb1.out.trans ((hbW.out.trans (hb2.mono hbW.out.size)).mono hb1.out.size)⟩
        rw [hP.out]
        simp_all
    · have hP : Hid (¬ pairB f.toks c.i t = true) := ⟨fun e => hp (by unfold pairB at e; rw [Bool.and_eq_true] at e; exact decT e.1)⟩
      by_cases hp1 : t.pair ≤ c.i
      · have d1 : decide (t.pair ≤ (c.i : Int)) = true := by simp; omega
        clear hp hp1
        go_enter Tryz.func29, Tryz.ntmps29
        go_wp2_with (first
          | (go_at_call 20; refine cB.mono ?_; rintro _ wq ⟨rfl, e⟩; obtain rfl : W1 = wq := e.symm)
          | (guard_target =~ wpList _ _ _ (Oper.mk _ (Op.load 43 _) _ _ _ _ :: _) _ _; go_must (first | refine wpList_ld 43 _ rfl rfl _ _ rfl l1.out ?_); simp only [pts])
          | (guard_target =~ wpList _ _ _ (Oper.mk _ (Op.store 43 _ _) _ _ _ _ :: _) _ _; go_must (refine wpList_st 43 _ _ rfl rfl _ _ rfl rfl (s1.out _ rfl) ?_); simp only [pts]))
        go_quiet (fail)
        go_wp2_with fail
        go_ret
        exact ⟨Ans.no hP.out, tdr hb1.out⟩
      · have d1 : decide (t.pair ≤ (c.i : Int)) = false := by simp; omega
        have d2 : decide (t.pair ≥ (f.toks.length : Int)) = true := by simp; omega
        clear hp hp1
        go_enter Tryz.func29, Tryz.ntmps29
        go_wp2_with (first
          | (go_at_call 20; refine cB.mono ?_; rintro _ wq ⟨rfl, e⟩; obtain rfl : W1 = wq := e.symm)
          | (guard_target =~ wpList _ _ _ (Oper.mk _ (Op.load 43 _) _ _ _ _ :: _) _ _; go_must (first | refine wpList_ld 43 _ rfl rfl _ _ rfl l1.out ?_); simp only [pts])
          | (guard_target =~ wpList _ _ _ (Oper.mk _ (Op.store 43 _ _) _ _ _ _ :: _) _ _; go_must (refine wpList_st 43 _ _ rfl rfl _ _ rfl rfl (s1.out _ rfl) ?_); simp only [pts]))
        go_quiet (fail)
        go_wp2_with fail
        go_ret
        exact ⟨Ans.no hP.out, tdr hb1.out⟩
end Go.Proofs.YtjjhfiddebmgcaaGreatDoor
namespace Go.Proofs.YtjjhfiddebmgcaaGreatDoor
open Go.ChangeShapes Go.WideShapes Go.ChangeAt Go.RowKit
theorem rdigit (c : Nat) (w : World) : Calls Tryz.prog 52 #[.int .u8 (c : Int)] w fun e w' => e = .returned (.bool (ndig c)) ∧ w' = w := by
  unfold ndig
  by_cases h : 48 ≤ c
  · go_enter Tryz.func52, Tryz.ntmps52
    go_wp2
    go_ret
    exact ⟨nret (by simp [h]; omega), rfl⟩
  · have d : decide (48 ≤ (c : Int)) = false := by simp; omega
    go_enter Tryz.func52, Tryz.ntmps52
    go_wp2
    go_ret
    exact ⟨nret (by simp; omega), rfl⟩
theorem rletter (c : Nat) (w : World) : Calls Tryz.prog 51 #[.int .u8 (c : Int)] w fun e w' => e = .returned (.bool (nlet c)) ∧ w' = w := by
  have : (c < 65) ∨ (65 ≤ c ∧ c ≤ 90) ∨ (90 < c ∧ c < 97) ∨ (97 ≤ c ∧ c ≤ 122) ∨ 122 < c := by omega
  rcases this with h | h | h | h | h
  · have d1 : decide (65 ≤ (c : Int)) = false := by simp; omega
    have d3 : decide (97 ≤ (c : Int)) = false := by simp; omega
    have g : nlet c = false := by unfold nlet; simp; omega
    rw [g]
    go_enter Tryz.func51, Tryz.ntmps51
    go_wp2
    go_ret
    exact ⟨rfl, rfl⟩
  · have d1 : decide (65 ≤ (c : Int)) = true := by simp; omega
    have d2 : decide ((c : Int) ≤ 90) = true := by simp; omega
    have d3 : decide (97 ≤ (c : Int)) = false := by simp; omega
    have g : nlet c = true := by unfold nlet; simp; omega
    rw [g]
    go_enter Tryz.func51, Tryz.ntmps51
    go_wp2
    go_ret
    exact ⟨rfl, rfl⟩
  · have d1 : decide (65 ≤ (c : Int)) = true := by simp; omega
    have d2 : decide ((c : Int) ≤ 90) = false := by simp; omega
    have d3 : decide (97 ≤ (c : Int)) = false := by simp; omega
    have g : nlet c = false := by unfold nlet; simp; omega
    rw [g]
    go_enter Tryz.func51, Tryz.ntmps51
    go_wp2
    go_ret
    exact ⟨rfl, rfl⟩
  · have d3 : decide (97 ≤ (c : Int)) = true := by simp; omega
    have d4 : decide ((c : Int) ≤ 122) = true := by simp; omega
    have g : nlet c = true := by unfold nlet; simp; omega
    rw [g]
    go_enter Tryz.func51, Tryz.ntmps51
    go_wp2
    go_ret
    exact ⟨rfl, rfl⟩
  · have d1 : decide (65 ≤ (c : Int)) = true := by simp; omega
    have d2 : decide ((c : Int) ≤ 90) = false := by simp; omega
    have d3 : decide (97 ≤ (c : Int)) = true := by simp; omega
    have d4 : decide ((c : Int) ≤ 122) = false := by simp; omega
    have g : nlet c = false := by unfold nlet; simp; omega
    rw [g]
    go_enter Tryz.func51, Tryz.ntmps51
    go_wp2
    go_ret
    exact ⟨rfl, rfl⟩
def inSet (S : ByteArray) (c k : Nat) : Bool := (List.range k).any fun j => decide (ch S j = c)
theorem inSet_succ (S : ByteArray) (c k : Nat) : inSet S c (k + 1) = (inSet S c k || decide (ch S k = c)) := by
  unfold inSet
  rw [List.range_succ, List.any_append]
  simp
def madeC (F M : ByteArray) (i c : Nat) : Bool := (nlet c || (decide (0 < i) && ndig c)) || inSet (if i = 0 then F else M) c (if i = 0 then F else M).size
def madeB (s F M : ByteArray) : Bool := decide (0 < s.size ∧ ∀ i, i < s.size → madeC F M i (ch s i) = true)
theorem rb3 {a b : World} (h : Below a.heap.size a b) (n : Nat) : Below a.heap.size a (b.drewN n) := ⟨h.os, h.tape, h.output, h.size, h.block⟩
set_option maxHeartbeats 4000000 in
theorem rmade (s F M : ByteArray) (hs : s.size ≤ 9223372036854775806) (hF : F.size ≤ 100) (hM : M.size ≤ 100) (w : World) : Calls Tryz.prog 44 #[.string s, .string F, .string M] w fun e w' => e = .returned (.bool (madeB s F M)) ∧ Below w.heap.size w w' := by
  go_enter Tryz.func44, Tryz.ntmps44
  go_wp2_with fail
  go_loopw [7] (fun v wr => ∃ i : Nat, i ≤ s.size ∧ v = .int .i64 (i : Int) ∧ (∀ j, j < i → madeC F M j (ch s j) = true) ∧ Below w.heap.size w wr) (fun v _ => s.size - (intOf v).toNat)
  case atStart => exact ⟨0, Nat.zero_le _, rfl, fun j hj => absurd hj (Nat.not_lt_zero j), Below.refl _ _⟩
  case round =>
    obtain ⟨i, hi, rfl, hall, HB⟩ := hrel
    by_cases hlt : i < s.size
    · have d1 : decide ((i : Int) < (s.size : Int)) = true := by simp; omega
      have ix : ∀ w : World, (Instr.index 9 (.string s) (.int .i64 (i : Int))).run Tryz.prog w = .ok (.int .u8 (ch s i : Int)) w := fun w => nidx (w := w) s i hlt .i64
      by_cases hi0 : i = 0
      · subst hi0
        obtain ⟨c, hc⟩ : ∃ c, Go.RowKit.Hid (c = ch s 0) := ⟨_, rfl⟩
        have ix : ∀ w : World, (Instr.index 9 (.string s) (.int .i64 0)).run Tryz.prog w = .ok (.int .u8 (c : Int)) w := fun w => by rw [hc.out]; exact nidx (w := w) s 0 hlt .i64
        have d1 : decide (0 < (s.size : Int)) = true := by simp; omega
        obtain ⟨b0, hb0⟩ : ∃ b0, nlet c = b0 := ⟨_, rfl⟩
        have hX : Go.RowKit.Hid (madeC F M 0 c = (b0 || inSet F c F.size)) := by show _ = _; unfold madeC; simp [hb0]
        go_upto_region 7 with fail
        go_cut [8, 9] (fun s8 s9 wx => s8 = .string F ∧ s9 = .bool b0 ∧ wx = wr)
        case first =>
          cases hl : nlet c <;> rw [hl] at hb0
          all_goals
            have hb1 : Go.RowKit.Hid (_ = b0) := hb0
            clear hb0
            go_wp2_with (first | (go_at_call 51; refine (rletter _ _).mono ?_; rintro e w1 ⟨rfl, hw1⟩; subst w1) | (go_at_call 52; refine (rdigit _ _).mono ?_; rintro e w1 ⟨rfl, hw1⟩; subst w1))
            go_meet
            case rel => exact ⟨rfl, by rw [← hb1.out] <;> rfl, rfl⟩
        case rest =>
        obtain ⟨rfl, rfl, rfl⟩ := hcut
        rename World => wr
        go_wp2_with fail
        go_loopw [9, 10] (fun ok v w2 => ∃ k : Nat, k ≤ F.size ∧ v = .int .i64 (k : Int) ∧ ok = .bool (b0 || inSet F c k) ∧ Below w.heap.size w w2) (fun _ v _ => F.size - (intOf v).toNat)
        case atStart => exact ⟨0, Nat.zero_le _, rfl, by simp [inSet], HB⟩
        case round =>
          obtain ⟨k, hk, rfl, rfl, HB⟩ := hrel
          by_cases hkl : k < F.size
          · have d2 : decide ((k : Int) < (F.size : Int)) = true := by simp; omega
            have ix2 : ∀ w : World, (Instr.index 9 (.string F) (.int .i64 (k : Int))).run Tryz.prog w = .ok (.int .u8 (ch F k : Int)) w := fun w => nidx (w := w) F k hkl .i64
            have hsu := inSet_succ F c k
            by_cases hcc : ch F k = c
            · have ec : ((ch F k : Int) == (c : Int)) = true := by simp; omega
              have hv : Go.RowKit.Hid ((b0 || inSet F c (k + 1)) = true) := by show _ = _; rw [hsu, decide_eq_true hcc, Bool.or_true, Bool.or_true]
              clear hcc hsu
              go_wp2_with fail
              go_quiet (fail)
              go_wp2_with fail
              go_round
              case rel => exact ⟨k + 1, by omega, by go_num, by rw [hv.out], rb3 HB _⟩
              case measure => simp [intOf]; omega
            · have ec : ((ch F k : Int) == (c : Int)) = false := by simp; omega
              have hv : Go.RowKit.Hid ((b0 || inSet F c (k + 1)) = (b0 || inSet F c k)) := by show _ = _; rw [hsu, decide_eq_false hcc, Bool.or_false]
              clear hcc hsu
              go_wp2_with fail
              go_quiet (fail)
              go_wp2_with fail
              go_round
              case rel => exact ⟨k + 1, by omega, by go_num, by rw [hv.out], rb3 HB _⟩
              case measure => simp [intOf]; omega
          · obtain rfl : k = F.size := by omega
            have d2 : decide ((F.size : Int) < (F.size : Int)) = false := by simp
            have hX := hX.out
            generalize (b0 || inSet F c F.size) = bb at hX ⊢
            cases bb
            · have g : madeB s F M = false := by
                unfold madeB
                simp only [decide_eq_false_iff_not]
                rintro ⟨-, h⟩
                have := h 0 hlt
                rw [← hc.out, hX] at this
                cases this
              clear hX
              go_wp2_with fail
              go_ret
              first | exact ⟨rfl, HB⟩ | exact ⟨nret g.symm, HB⟩
            · have hX : Go.RowKit.Hid (_ = true) := hX
              go_wp2_with fail
              go_round
              case rel => exact ⟨1, by omega, by go_num, fun j hj => by
                by_cases h : j = 0
                · rw [h, ← hc.out]; exact hX.out
                · exact hall j (by omega), HB⟩
              case measure => simp [intOf]; omega
      · have e0 : ((i : Int) == 0) = false := by simp [hi0]
        have p0 : 0 < i := by omega
        obtain ⟨c, hc⟩ : ∃ c, Go.RowKit.Hid (c = ch s i) := ⟨_, rfl⟩
        rw [← hc.out] at ix
        obtain ⟨b0, hb0⟩ : ∃ b0, (nlet c || ndig c) = b0 := ⟨_, rfl⟩
        have hX : Go.RowKit.Hid (madeC F M i c = (b0 || inSet M c M.size)) := by show _ = _; unfold madeC; rw [if_neg hi0, ← hb0, decide_eq_true (show 0 < i by omega), Bool.true_and]
        clear hi0
        go_upto_region 7 with fail
        go_cut [8, 9] (fun s8 s9 wx => s8 = .string M ∧ s9 = .bool b0 ∧ wx = wr)
        case first =>
          cases hl : nlet c <;> cases hd : ndig c <;> rw [hl, hd] at hb0
          all_goals
            have hb1 : Go.RowKit.Hid (_ = b0) := hb0
            clear hb0
            go_wp2_with (first | (go_at_call 51; refine (rletter _ _).mono ?_; rintro e w1 ⟨rfl, hw1⟩; subst w1) | (go_at_call 52; refine (rdigit _ _).mono ?_; rintro e w1 ⟨rfl, hw1⟩; subst w1))
            go_meet
            case rel => exact ⟨rfl, by rw [← hb1.out] <;> rfl, rfl⟩
        case rest =>
        obtain ⟨rfl, rfl, rfl⟩ := hcut
        rename World => wr
        go_wp2_with fail
        go_loopw [9, 10] (fun ok v w2 => ∃ k : Nat, k ≤ M.size ∧ v = .int .i64 (k : Int) ∧ ok = .bool (b0 || inSet M c k) ∧ Below w.heap.size w w2) (fun _ v _ => M.size - (intOf v).toNat)
        case atStart => exact ⟨0, Nat.zero_le _, rfl, by simp [inSet], HB⟩
        case round =>
          obtain ⟨k, hk, rfl, rfl, HB⟩ := hrel
          by_cases hkl : k < M.size
          · have d2 : decide ((k : Int) < (M.size : Int)) = true := by simp; omega
            have ix2 : ∀ w : World, (Instr.index 9 (.string M) (.int .i64 (k : Int))).run Tryz.prog w = .ok (.int .u8 (ch M k : Int)) w := fun w => nidx (w := w) M k hkl .i64
            have hsu := inSet_succ M c k
            by_cases hcc : ch M k = c
            · have ec : ((ch M k : Int) == (c : Int)) = true := by simp; omega
              have hv : Go.RowKit.Hid ((b0 || inSet M c (k + 1)) = true) := by show _ = _; rw [hsu, decide_eq_true hcc, Bool.or_true, Bool.or_true]
              clear hcc hsu
              go_wp2_with fail
              go_quiet (fail)
              go_wp2_with fail
              go_round
              case rel => exact ⟨k + 1, by omega, by go_num, by rw [hv.out], rb3 HB _⟩
              case measure => simp [intOf]; omega
            · have ec : ((ch M k : Int) == (c : Int)) = false := by simp; omega
              have hv : Go.RowKit.Hid ((b0 || inSet M c (k + 1)) = (b0 || inSet M c k)) := by show _ = _; rw [hsu, decide_eq_false hcc, Bool.or_false]
              clear hcc hsu
              go_wp2_with fail
              go_quiet (fail)
              go_wp2_with fail
              go_round
              case rel => exact ⟨k + 1, by omega, by go_num, by rw [hv.out], rb3 HB _⟩
              case measure => simp [intOf]; omega
          · obtain rfl : k = M.size := by omega
            have d2 : decide ((M.size : Int) < (M.size : Int)) = false := by simp
            have hX := hX.out
            generalize (b0 || inSet M c M.size) = bb at hX ⊢
            cases bb
            · have g : madeB s F M = false := by
                unfold madeB
                simp only [decide_eq_false_iff_not]
                rintro ⟨-, h⟩
                have := h i hlt
                rw [← hc.out, hX] at this
                cases this
              clear hX
              go_wp2_with fail
              go_ret
              first | exact ⟨rfl, HB⟩ | exact ⟨nret g.symm, HB⟩
            · have hX : Go.RowKit.Hid (_ = true) := hX
              go_wp2_with fail
              go_round
              case rel => exact ⟨i + 1, by omega, by go_num, fun j hj => by
                by_cases h : j = i
                · rw [h, ← hc.out]; exact hX.out
                · exact hall j (by omega), HB⟩
              case measure => simp [intOf]; omega
    · obtain rfl : i = s.size := by omega
      have g : madeB s F M = !(s.toList == []) := by
        rw [nempty]
        unfold madeB
        by_cases h0 : s.size = 0
        · simp [h0]
        · simp only [h0, decide_false, Bool.not_false, decide_eq_true_eq]
          exact ⟨by omega, hall⟩
      clear hall
      have d2 : decide ((s.size : Int) < (s.size : Int)) = false := by simp
      have g : Go.RowKit.Hid (madeB s F M = !(s.toList == [])) := g
      go_wp2_with fail
      go_ret
      exact ⟨nret (by rw [g.out]; cases s.toList <;> rfl), HB⟩
abbrev yF : ByteArray := ⟨#[95]⟩
theorem inSet_yF (c : Nat) : inSet yF c yF.size = decide (95 = c) := by
  show (decide (95 = c) || false) = _
  rw [Bool.or_false]
theorem madeC_y (i c : Nat) : madeC yF yF i c = (nsym c && !(decide (i = 0) && ndig c && !nlet c && !decide (c = 95))) := by
  unfold madeC nsym
  simp only [ite_self]
  rw [inSet_yF]
  by_cases hi : i = 0
  · rw [hi]
    simp only [eq_comm (a := c)]
    cases nlet c <;> cases ndig c <;> cases decide (95 = c) <;> simp
  · rw [decide_eq_true (show 0 < i by omega), decide_eq_false hi]
    simp only [eq_comm (a := c)]
    cases nlet c <;> cases ndig c <;> cases decide (95 = c) <;> rfl
theorem dig_not (c : Nat) (h : ndig c = true) : nlet c = false ∧ decide (c = 95) = false := by
  unfold ndig at h
  simp only [Bool.and_eq_true, decide_eq_true_eq] at h
  unfold nlet
  constructor
  · simp; omega
  · simp; omega
theorem madeB_y (s : ByteArray) : (decide (s.size ≤ 64) && madeB s yF yF) = symbolB s := by
  unfold madeB symbolB
  rw [← Bool.decide_and]
  apply decide_eq_decide.2
  constructor
  · rintro ⟨h1, h2, h3⟩
    refine ⟨h2, h1, ?_, fun i hi => ?_⟩
    · have := h3 0 h2
      rw [madeC_y] at this
      cases hd : ndig (ch s 0)
      · rfl
      · obtain ⟨a, b⟩ := dig_not _ hd
        rw [hd, a, b] at this
        simp at this
    · have := h3 i hi
      rw [madeC_y, Bool.and_eq_true] at this
      exact this.1
  · rintro ⟨h1, h2, h3, h4⟩
    refine ⟨h2, h1, fun i hi => ?_⟩
    rw [madeC_y, h4 i hi]
    by_cases h0 : i = 0
    · rw [h0, h3]; simp
    · simp [h0]
theorem rSymbol (s : ByteArray) (hs : s.size ≤ 9223372036854775806) (w : World) : Calls Tryz.prog 30 #[.string s] w fun e w' => e = .returned (.bool (symbolB s)) ∧ Below w.heap.size w w' := by
  have hm := fun w => rmade s yF yF hs (by decide) (by decide) w
  have hy := madeB_y s
  by_cases h : s.size ≤ 64
  · have d : decide ((s.size : Int) ≤ 64) = true := by simp; omega
    rw [decide_eq_true h, Bool.true_and] at hy
    rw [hy] at hm
    clear hy
    go_enter Tryz.func30, Tryz.ntmps30
    go_wp2_with (go_at_call 44; refine (hm _).mono ?_; rintro e w1 ⟨rfl, hb⟩)
    go_ret
    exact ⟨rfl, hb⟩
  · have d : decide ((s.size : Int) ≤ 64) = false := by simp; omega
    rw [decide_eq_false h, Bool.false_and] at hy
    rw [← hy]
    clear hy hm h
    go_enter Tryz.func30, Tryz.ntmps30
    go_wp2
    go_ret
    exact ⟨rfl, Below.refl _ _⟩
end Go.Proofs.YtjjhfiddebmgcaaGreatDoor

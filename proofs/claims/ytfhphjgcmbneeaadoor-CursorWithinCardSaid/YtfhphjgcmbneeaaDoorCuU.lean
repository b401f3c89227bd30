/- The law CursorWithin: the walk. -/
import Derived.Test.YtfhphjgcmbneeaaDoorCuV
namespace Go.Proofs.YtfhphjgcmbneeaaDoor
open Go.ChangeShapes Go.WideShapes Go.ChangeAt Go.RowKit

set_option maxRecDepth 100000 in
set_option maxHeartbeats 4000000 in
theorem Within_any (a : Option Addr) (L C : Nat) (bi : Nat → Int) (at' : Int) (ps : Option Addr) (ops : List Op1) (pcap : Nat) (w : World) (kt : KT w) (hb : Arg w a L bi) (hbi : ∀ j, 0 ≤ bi j ∧ bi j ≤ 255) (hL : L + 4096 ≤ 140737488355328) (hs : OpsR w ps ops) :
    Calls Tryd.prog 4 #[.slice a L C, .int .i64 at', .slice ps ops.length pcap] w fun e w' => e = .returned (.bool true) ∧ Below w.heap.size w w' := by
  have hL1 : L ≤ 140737488355328 := by omega
  have HB : Hid (Arg w a L bi) := hb
  have HS : Hid (OpsR w ps ops) := hs
  have K : Hid (KT w) := kt
  have z0 := kt.pos
  have N1 := New_ok (row123 w) f123_bd (Nat.le_refl _) (by decide) 1 (by decide) true
  have o1 : ordV true = 1 := rfl
  rw [o1] at N1
  have CL := fun c0 W (hW : Cs W c0 0 w.heap.size 3 3 1 1 true f123) => Claim_any hW 2
  have k1 : clP 3 1 2 = 1 := by decide
  have k2 : clE 3 1 2 = 0 := by decide
  have k3 : clN 3 1 2 = 3 := by decide
  rw [k1, k2, k3] at CL
  have PU := fun c0 W (hW : Cs W c0 0 w.heap.size 3 3 1 3 true f123) (hk : KT W) => PutCu_any hW hk 1 6 513 (by decide) (by decide)
  have k4 : putE 1 3 1 6 513 = 0 := by decide
  rw [k4] at PU
  clear hb hs kt k1 k2 k3 k4
  go_enter Tryd.func4, Tryd.ntmps4
  go_wp2_with (first
    | (go_at_call 6; refine N1.mono ?_; rintro _ w1 ⟨c0, rfl, hc0, C1, B1⟩; have BW1 : Below w.heap.size w w1 := belT (bel1 _ _) B1; clear B1)
    | (go_at_call 8; refine (CL c0 w1 C1).mono ?_; rintro _ w2 ⟨rfl, C2, D2⟩; have BW2 : Below w.heap.size w w2 := BW1.trans (D2.below (by simp at hc0; omega) (Nat.le_refl _) BW1.size); have KW2 := K.out.below K.out.pos BW2; clear C1 D2 BW1)
    | (go_at_call 9; refine (PU c0 w2 C2 KW2).mono ?_; rintro _ w3 ⟨rfl, C3, D3⟩; have BW3 : Below w.heap.size w w3 := BW2.trans (D3.below (Nat.le_refl _) BW2.size); clear C2 D3 BW2 KW2)
    | (at_builtin; refine (wpList_append_ex (by rfl) _ _ _ (by rfl) _ _ (by rfl) (by rfl) _ (app_copy _ _ _ _ _ bi ?h0 ?hb hL1) ?hK)))
  case h0 => exact heap_al _ _
  case hb => exact HB.out.below (belT BW3 (bel1 _ _))
  case hK =>
  intro v w4 g cap hv B4 R4 hc4 hg4 hm4
  subst hv
  have z3 := BW3.size
  have BW4 : Below w.heap.size w w4 := (belT BW3 (bel1 _ _)).trans (B4.mono (by omega))
  have gg : w.heap.size ≤ g := by rcases hg4 with h | h <;> rw [h] <;> (try simp) <;> omega
  clear B4 hg4 BW3 N1 CL PU C3 hc0
  go_wp2_with (at_builtin; refine (wpList_append_ex (by rfl) _ _ _ (by rfl) _ _ (by rfl) (by rfl) _ (app_three _ _ _ _ (fun j => if j < L then bi j else 0) _ _ ?hR hc4 ?hs (by omega) hm4) ?hK))
  case hR => exact R4.alloc _
  case hs => exact heap_al _ _
  case hK =>
  intro v w5 gF capF hv B5 R5 hc5 hg5 hm5
  subst hv
  have RF : w5.rowIs gF 5 capF (fun j => .int .u8 (fM L bi j)) := R5.congr fun j _ => by rw [fM_of]
  have z4 := BW4.size
  have BW5 : Below w.heap.size w w5 := (belT BW4 (bel1 _ _)).trans (B5 _ gg (by (try simp); omega))
  have gF1 : w.heap.size ≤ gF := by rcases hg5 with h | h <;> rw [h] <;> (try simp) <;> omega
  have lF : L ≤ capF := by omega
  clear B5 R5 hg5 BW4 R4 hc4 hm4 gg
  by_cases hin : 0 ≤ at' ∧ at' ≤ (L : Int)
  rotate_left
  · have hsz : ¬ 9223372036854775807 < (textF bi 0 L).size + 3 := by rw [textF_size]; omega
    have N2 := New_none (w := w5) (p := some ⟨gF, 0, none⟩) (len := L) (cap := capF) at' 0 ⟨.inl rfl, by omega⟩
    go_wp2_with (first
      | (go_at_call 6; refine N2.mono ?_; rintro _ w6 ⟨rfl, B6⟩; have BW6 := belT BW5 B6; have hcB := conv_arg (C := C) (HB.out.below BW6) hbi; have hcF := text_conv w6 gF capF (fM L bi) (rowIs_below RF B6 RF.lt) 0 (L + 3) capF (by omega)))
    go_ret
    refine ⟨ret_bool ?_, BW6⟩
    rw [text_tail, beq_self_eq_true]
  obtain ⟨a0, rfl⟩ : ∃ a0 : Nat, at' = a0 := ⟨at'.toNat, by omega⟩
  have N2 := New_ok RF (fM_bd hbi) lF hL1 a0 (by omega) false
  have o0 : ordV false = 0 := rfl
  rw [o0] at N2
  clear o0 o1
  go_wp2_with (first
      | (go_at_call 6; refine N2.mono ?_; rintro _ w6 ⟨c, rfl, hc6, C6, B6⟩; have BW6 := belT BW5 B6)
      | (go_at_call 13; refine (Start_any C6).mono ?_; rintro _ w7 ⟨rfl, he⟩; replace he := he.symm; subst he)
      | (go_at_call 12; refine (At_any C6).mono ?_; rintro _ w7 ⟨rfl, he⟩; replace he := he.symm; subst he))

  have xc : w6.heap.size ≠ c := by have := C6.lt; omega
  have xg : w6.heap.size ≠ gF := by have := C6.row.lt; omega
  have cw : w.heap.size ≤ c := by have := BW5.size; omega
  have zc : 0 < c := by omega
  have zg : 0 < gF := by omega
  have C7 : Hid _ := C6.below (bel1 _ (.cells #[.pointer (some ⟨c, 0, none⟩), .slice none 0 0, .int .i64 0, .int .i64 0, .int .i64 0, .slice (some ⟨gF, 0, none⟩) L capF, .slice none 0 0] 63))
  have BW7 : Hid _ := belT BW6 (bel1 _ (.cells #[.pointer (some ⟨c, 0, none⟩), .slice none 0 0, .int .i64 0, .int .i64 0, .int .i64 0, .slice (some ⟨gF, 0, none⟩) L capF, .slice none 0 0] 63))
  have hx0 : Hid ((w6.alloc (.cells #[.pointer (some ⟨c, 0, none⟩), .slice none 0 0, .int .i64 0, .int .i64 0, .int .i64 0, .slice (some ⟨gF, 0, none⟩) L capF, .slice none 0 0] 63)).cell? ⟨w6.heap.size, 0, none⟩ = some (.pointer (some ⟨c, 0, none⟩))) := cell_at (heap_al _ _) 0
  generalize hX : w6.heap.size = X at *
  clear C6 B6 BW6 N2 RF BW5 hX
  go_loopw [95] (fun i wz => ∃ (k en : Nat) (f : Nat → Int), k ≤ ops.length ∧ i = .int .i64 k ∧ Cs wz c 0 gF L capF a0 en false f ∧ Below w.heap.size w wz ∧ wz.cell? ⟨X, 0, none⟩ = some (.pointer (some ⟨c, 0, none⟩))) (fun i _ => ops.length - (intOf i).toNat)
  case atStart => exact ⟨0, a0, _, Nat.zero_le _, rfl, C7.out, BW7.out, hx0.out⟩
  case round =>
    clear C7 BW7 hx0
    obtain ⟨k, en, f, hk, rfl, X1, X2, X3⟩ := hrel
    rename World => wz
    by_cases hlt : k < ops.length
    · obtain ⟨o, ho⟩ : ∃ o, ops[k]? = some o := ⟨ops[k], List.getElem?_eq_getElem hlt⟩
      obtain ⟨gO, bO, pc, cc, rfl, hgO, hM, hok⟩ := (HS.out.below X2).c k o ho
      have hlt' : (k : Int) < (ops.length : Int) := by omega
      have L1 := hM.load
      have L2 := (opM_new wz o pc cc).load
      have sO := fun z hz => run_storeAt_new wz 65 z (opC o pc cc).toArray infoOp hz (all_oneCell_toArray (opC_one o pc cc))
      have Y1 := X1.below (bel1 wz (opO o pc cc))
      have Y2 := belT X2 (bel1 wz (opO o pc cc))
      have Y3 := ((bel1 wz (opO o pc cc)).cell (p := ⟨X, 0, none⟩) (blk_of_cell X3)).trans X3
      have Y4 := K.out.below K.out.pos Y2
      have DO := does_any Y1 Y4 zc zg Y3 o pc cc hok
      have cv1 := fun c => text_conv (wz.alloc (opO o pc cc)) gF capF f Y1.row 0 (L + 3) c (by omega)
      clear hM ho hgO X1 X2 X3
      generalize hW : wz.alloc (opO o pc cc) = W at *
      by_cases h200 : 200 ≤ k
      · have hd : decide ((200 : Int) ≤ (k : Int)) = true := decide_eq_true (by omega)
        have Y2' : Hid (Below w.heap.size w W) := Y2
        clear Y1 Y2 Y3 Y4 DO cv1
        go_wp2_with (first
          | (guard_target =~ wpList _ _ _ (Oper.mk _ (Op.load 65 _) _ _ _ _ :: _) _ _; go_must (refine wpList_ld 65 _ rfl rfl _ _ rfl L1 ?_); simp only [pts])
          | (guard_target =~ wpList _ _ _ (Oper.mk _ (Op.store 65 _ _) _ _ _ _ :: _) _ _; go_must (refine wpList_st 65 _ _ rfl rfl _ _ rfl rfl (sO _ rfl) ?_); simp only [pts]))
        go_ret
        exact ⟨rfl, Y2'.out⟩
      · have hd : decide ((200 : Int) ≤ (k : Int)) = false := decide_eq_false (by omega)
        have WI := op_wi (hi := false) (f := f) Y1.h1 Y1.h2 o
        have RE := op_reads (hi := false) (len := L) (st := a0) (en := en) (f := f) (o := o)
        have AT := At_any Y1
        unfold DsP at DO
        generalize opE false L a0 en f o = E at DO WI
        generalize opN false L a0 en f o = n' at DO WI
        generalize opF false L a0 en f o = f' at DO WI RE
        generalize opW o = wb at DO RE
        have b1 : ¬ (n' : Int) < (en : Int) := by have := WI.le; omega
        have b2 : ¬ (L : Int) < (n' : Int) := by have := WI.lt; omega
        have Y2' : Hid (Below w.heap.size w W) := Y2
        have Y1' : Hid (Cs W c 0 gF L capF a0 en false f) := Y1
        have WI' : Hid (Wi L a0 en f E n' f') := WI
        clear Y1 Y2 Y4
        have F1 : Hid (1 = 1) := rfl
        have Yx : Hid (X < W.heap.size) := blk_of_cell Y3
        have Yf := Y1'.out.h1
        have Yg := Y1'.out.h2
        have T1 : Hid (textF f' 0 a0 = (textF f 0 (L + 3)).extract 0 a0) := (textF_congr fun j _ hj => WI.out j (.inl (by omega))).trans (text_cut f (L + 3) 0 a0 (Nat.zero_le _) (by omega)).symm
        have T2 : Hid (textF f' n' (L + 3 - n') = (textF f 0 (L + 3)).extract n' (L + 3)) := (textF_congr fun j hj _ => WI.out j (.inr hj)).trans (text_cut f (L + 3) n' (L + 3) (by have := WI.lt; omega) (Nat.le_refl _)).symm
        have hz := textF_size f 0 (L + 3)
        have hnl := WI.lt
        by_cases hE : E = 0
        · have hE' : (E != 0) = false := by rw [hE]; rfl
          clear hE
          cases wb with
          | false =>
            obtain rfl := RE rfl
            clear WI RE
            go_wp2_with (first
              | (guard_target =~ wpList _ _ _ (Oper.mk _ (Op.load 65 _) _ _ _ _ :: _) _ _; go_must (first | refine wpList_ld 65 _ rfl rfl _ _ rfl L1 ?_ | refine wpList_ld 65 _ rfl rfl _ _ rfl L2 ?_); simp only [pts])
              | (guard_target =~ wpList _ _ _ (Oper.mk _ (Op.store 65 _ _) _ _ _ _ :: _) _ _; go_must (refine wpList_st 65 _ _ rfl rfl _ _ rfl rfl (sO _ rfl) ?_); simp only [pts])
              | (clear F1; go_at_call 12; refine AT.mono ?_; rintro _ w7 ⟨rfl, he⟩; replace he := he.symm; subst he)
              | (go_at_call 18; refine DO.mono ?_; rintro _ w8 ⟨rfl, D1, D2⟩; have AT8 := At_any D1; have ST8 := Start_any D1)
              | (go_at_call 12; refine AT8.mono ?_; rintro _ w7 ⟨rfl, he⟩; replace he := he.symm; subst he)
              | (go_at_call 13; refine ST8.mono ?_; rintro _ w7 ⟨rfl, he⟩; replace he := he.symm; subst he))
            have Z : Hid (Cs w8 c 0 gF L capF a0 n' false f') := D1
            have hn5 : (a0 : Int) ≤ (capF : Int) := by omega
            have hn6 : (n' : Int) ≤ (capF : Int) := by omega
            have hn7 : (L : Int) + 3 ≤ (capF : Int) := by omega
            have hn8 : (n' : Int) ≤ (L : Int) + 3 := by omega
            have hn9 : (a0 : Int) ≤ (L : Int) + 3 := by omega
            have cvA := fun n c => text_conv (w8.drewN n) gF capF f' (D1.below dN).row 0 (L + 3) c (by omega)
            have cvB := fun n c => (text_conv (w8.drewN n) gF capF f' (D1.below dN).row 0 a0 c (by omega)).trans (congrArg (fun s => Result.ok (Value.string s) (w8.drewN n)) T1.out)
            have cvC := fun n c => (text_conv (w8.drewN n) gF capF f' (D1.below dN).row n' (L + 3 - n') c (by omega)).trans (congrArg (fun s => Result.ok (Value.string s) (w8.drewN n)) T2.out)
            have AT9 := fun n => At_any (D1.below (dN (n := n)))
            clear D1 AT L1 L2 sO DO AT8 ST8
            go_quiet (first | (go_at_call 12; exact Calls.quiet_of_same (AT9 _)))
            go_wp2_with fail
            exact ⟨⟨k + 1, n', f', by omega, by go_num, Z.out.below dN, below_drewN (Y2'.out.trans (D2.below cw gF1 Y2'.out.size)) _, (D2.at Yx.out xc xg).trans Y3⟩, by simp [intOf]; omega⟩
          | true =>
            clear WI RE
            go_wp2_with (first
              | (guard_target =~ wpList _ _ _ (Oper.mk _ (Op.load 65 _) _ _ _ _ :: _) _ _; go_must (first | refine wpList_ld 65 _ rfl rfl _ _ rfl L1 ?_ | refine wpList_ld 65 _ rfl rfl _ _ rfl L2 ?_); simp only [pts])
              | (guard_target =~ wpList _ _ _ (Oper.mk _ (Op.store 65 _ _) _ _ _ _ :: _) _ _; go_must (refine wpList_st 65 _ _ rfl rfl _ _ rfl rfl (sO _ rfl) ?_); simp only [pts])
              | (clear F1; go_at_call 12; refine AT.mono ?_; rintro _ w7 ⟨rfl, he⟩; replace he := he.symm; subst he)
              | (go_at_call 18; refine DO.mono ?_; rintro _ w8 ⟨rfl, D1, D2⟩; have AT8 := At_any D1; have ST8 := Start_any D1)
              | (go_at_call 12; refine AT8.mono ?_; rintro _ w7 ⟨rfl, he⟩; replace he := he.symm; subst he)
              | (go_at_call 13; refine ST8.mono ?_; rintro _ w7 ⟨rfl, he⟩; replace he := he.symm; subst he))
            have Z : Hid (Cs w8 c 0 gF L capF a0 n' false f') := D1
            have hn5 : (a0 : Int) ≤ (capF : Int) := by omega
            have hn6 : (n' : Int) ≤ (capF : Int) := by omega
            have hn7 : (L : Int) + 3 ≤ (capF : Int) := by omega
            have hn8 : (n' : Int) ≤ (L : Int) + 3 := by omega
            have hn9 : (a0 : Int) ≤ (L : Int) + 3 := by omega
            have cvB := fun n c => (text_conv (w8.drewN n) gF capF f' (D1.below dN).row 0 a0 c (by omega)).trans (congrArg (fun s => Result.ok (Value.string s) (w8.drewN n)) T1.out)
            have cvC := fun n c => (text_conv (w8.drewN n) gF capF f' (D1.below dN).row n' (L + 3 - n') c (by omega)).trans (congrArg (fun s => Result.ok (Value.string s) (w8.drewN n)) T2.out)
            have AT9 := fun n => At_any (D1.below (dN (n := n)))
            clear D1 AT L1 L2 sO DO AT8 ST8
            go_quiet (first | (go_at_call 12; exact Calls.quiet_of_same (AT9 _)))
            go_wp2_with fail
            exact ⟨⟨k + 1, n', f', by omega, by go_num, Z.out.below dN, below_drewN (Y2'.out.trans (D2.below cw gF1 Y2'.out.size)) _, (D2.at Yx.out xc xg).trans Y3⟩, by simp [intOf]; omega⟩
        · have hE' : (E != 0) = true := by simpa using hE
          obtain ⟨rfl, rfl⟩ := WI.no hE
          clear WI RE
          go_wp2_with (first
            | (guard_target =~ wpList _ _ _ (Oper.mk _ (Op.load 65 _) _ _ _ _ :: _) _ _; go_must (first | refine wpList_ld 65 _ rfl rfl _ _ rfl L1 ?_ | refine wpList_ld 65 _ rfl rfl _ _ rfl L2 ?_); simp only [pts])
            | (guard_target =~ wpList _ _ _ (Oper.mk _ (Op.store 65 _ _) _ _ _ _ :: _) _ _; go_must (refine wpList_st 65 _ _ rfl rfl _ _ rfl rfl (sO _ rfl) ?_); simp only [pts])
            | (clear F1; go_at_call 12; refine AT.mono ?_; rintro _ w7 ⟨rfl, he⟩; replace he := he.symm; subst he)
            | (go_at_call 18; refine DO.mono ?_; rintro _ w8 ⟨rfl, D1, D2⟩; have AT8 := At_any D1; have ST8 := Start_any D1)
            | (go_at_call 12; refine AT8.mono ?_; rintro _ w7 ⟨rfl, he⟩; replace he := he.symm; subst he)
            | (go_at_call 13; refine ST8.mono ?_; rintro _ w7 ⟨rfl, he⟩; replace he := he.symm; subst he))
          have Z : Hid (Cs w8 c 0 gF L capF a0 n' false f') := D1
          have hn5 : (a0 : Int) ≤ (capF : Int) := by omega
          have hn6 : (n' : Int) ≤ (capF : Int) := by omega
          have hn7 : (L : Int) + 3 ≤ (capF : Int) := by omega
          have hn8 : (n' : Int) ≤ (L : Int) + 3 := by omega
          have hn9 : (a0 : Int) ≤ (L : Int) + 3 := by omega
          have cvA := fun n c => text_conv (w8.drewN n) gF capF f' (D1.below dN).row 0 (L + 3) c (by omega)
          have cvB := fun n c => (text_conv (w8.drewN n) gF capF f' (D1.below dN).row 0 a0 c (by omega)).trans (congrArg (fun s => Result.ok (Value.string s) (w8.drewN n)) T1.out)
          have cvC := fun n c => (text_conv (w8.drewN n) gF capF f' (D1.below dN).row n' (L + 3 - n') c (by omega)).trans (congrArg (fun s => Result.ok (Value.string s) (w8.drewN n)) T2.out)
          have AT9 := fun n => At_any (D1.below (dN (n := n)))
          clear D1 AT L1 L2 sO DO AT8 ST8
          go_quiet (first | (go_at_call 12; exact Calls.quiet_of_same (AT9 _)))
          go_wp2_with fail
          exact ⟨⟨k + 1, n', f', by omega, by go_num, Z.out.below dN, below_drewN (Y2'.out.trans (D2.below cw gF1 Y2'.out.size)) _, (D2.at Yx.out xc xg).trans Y3⟩, by simp [intOf]; omega⟩
    · go_wp2
      go_ret
      exact ⟨rfl, X2⟩
end Go.Proofs.YtfhphjgcmbneeaaDoor

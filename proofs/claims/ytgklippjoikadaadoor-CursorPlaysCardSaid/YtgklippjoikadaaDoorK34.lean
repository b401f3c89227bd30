/- CuPlT. -/
import Derived.Test.YtgklippjoikadaaDoorK32
namespace Go.Proofs.YtgklippjoikadaaDoor
open Go.ChangeShapes Go.WideShapes Go.ChangeAt Go.RowKit

set_option maxRecDepth 100000 in
set_option maxHeartbeats 8000000 in
theorem Plays_true (a : Option Addr) (L C : Nat) (bi : Nat → Int) (at' : Int) (ps : Option Addr) (ops : List Op1) (pcap : Nat) (w : World) (kt : KT w) (hb : Arg w a L bi) (hbi : ∀ j, 0 ≤ bi j ∧ bi j ≤ 255) (hL : L + 4096 ≤ 140737488355328) (hs : OpsR w ps ops) :
    Calls Tryd.prog 3 #[.slice a L C, .int .i64 at', .bool true, .slice ps ops.length pcap] w fun e w' => e = .returned (.bool true) ∧ Below w.heap.size w w' := by
  have hL1 : L ≤ 140737488355328 := by omega
  have HB : Hid (Arg w a L bi) := hb
  have HS : Hid (OpsR w ps ops) := hs
  have K : Hid (KT w) := kt
  have z0 := kt.pos
  have o1 : ordV true = 1 := rfl
  have o2 : ordV true = 1 := rfl
  clear hb hs kt
  go_enter Tryd.func3, Tryd.ntmps3
  go_wp2_with (at_builtin; refine (wpList_append_ex (by rfl) _ _ _ (by rfl) _ _ (by rfl) (by rfl) _ (app_copy _ _ _ _ _ bi ?h0 ?hb hL1) ?hK))
  case h0 => exact heap_al _ _
  case hb => exact HB.out.below (bel1 _ _)
  case hK =>
  intro v w4 g cap hv B4 R4 hc4 hg4 hm4
  subst hv
  have BW4 : Below w.heap.size w w4 := (bel1 _ _).trans (B4.mono (by simp))
  have gg : w.heap.size ≤ g := by rcases hg4 with h | h <;> rw [h] <;> (try simp)
  clear B4 hg4
  go_wp2_with (at_builtin; refine (wpList_append_ex (by rfl) _ _ _ (by rfl) _ _ (by rfl) (by rfl) _ (app_three _ _ _ _ (fun j => if j < L then bi j else 0) _ _ ?hR hc4 ?hs (by omega) hm4) ?hK))
  case hR => exact R4.alloc _
  case hs => exact heap_al _ _
  case hK =>
  intro v w5 gF capF hv B5 R5 hc5 hg5 hm5
  subst hv
  have RF : w5.rowIs gF 5 capF (fun j => .int .u8 (fM L bi j)) := R5.congr fun j _ => by rw [fM_of]
  have z4 := BW4.size
  have BW5 : Below w.heap.size w w5 := (belT BW4 (bel1 _ _)).trans (B5 _ gg (by (try simp); omega))
  have gF1 : w.heap.size ≤ gF := by rcases hg5 with h | h <;> rw [h] <;> (try simp) <;> omega
  have lF : L ≤ capF := by omega
  clear B5 R5 hg5 BW4 R4 hc4 hm4 gg z4
  go_wp2_with (at_builtin; refine (wpList_append_ex (by rfl) _ _ _ (by rfl) _ _ (by rfl) (by rfl) _ (app_copy _ _ _ _ _ bi ?h0 ?hb hL1) ?hK))
  case h0 => exact heap_al _ _
  case hb => exact HB.out.below (belT BW5 (bel1 _ _))
  case hK =>
  intro v w6 gD capD hv B6 RD lD hg6 hm6
  subst hv
  have z5 := BW5.size
  have BW6 : Below w.heap.size w w6 := (belT BW5 (bel1 _ _)).trans (B6.mono (by (try simp); omega))
  have RF6 : w6.rowIs gF 5 capF (fun j => .int .u8 (fM L bi j)) := rowIs_below (RF.alloc _) B6 (Nat.lt_succ_of_lt RF.lt)
  have nFD : gD ≠ gF := by have := RF.lt; rcases hg6 with h | h <;> rw [h] <;> (try simp) <;> omega
  have gD1 : w.heap.size ≤ gD := by rcases hg6 with h | h <;> rw [h] <;> (try simp) <;> omega
  clear B6 hg6 RF BW5 hm5 hm6 z5
  have X0 : Hid ((w6.alloc (.cells #[.pointer none, .slice none 0 0, .int .i64 0, .int .i64 0, .int .i64 0, .slice (some ⟨gF, 0, none⟩) L capF, .slice (some ⟨gD, 0, none⟩) L capD] 30)).heap[w6.heap.size]? = some (.cells #[.pointer none, .slice none 0 0, .int .i64 0, .int .i64 0, .int .i64 0, .slice (some ⟨gF, 0, none⟩) L capF, .slice (some ⟨gD, 0, none⟩) L capD] 30)) := heap_al _ _
  have BX := belT BW6 (bel1 w6 (.cells #[.pointer none, .slice none 0 0, .int .i64 0, .int .i64 0, .int .i64 0, .slice (some ⟨gF, 0, none⟩) L capF, .slice (some ⟨gD, 0, none⟩) L capD] 30))
  have RFX := RF6.alloc (.cells #[.pointer none, .slice none 0 0, .int .i64 0, .int .i64 0, .int .i64 0, .slice (some ⟨gF, 0, none⟩) L capF, .slice (some ⟨gD, 0, none⟩) L capD] 30)
  have RDX := RD.alloc (.cells #[.pointer none, .slice none 0 0, .int .i64 0, .int .i64 0, .int .i64 0, .slice (some ⟨gF, 0, none⟩) L capF, .slice (some ⟨gD, 0, none⟩) L capD] 30)
  have xF : w6.heap.size ≠ gF := by have := RF6.lt; omega
  have xD : w6.heap.size ≠ gD := by have := RD.lt; omega
  have Xw : w.heap.size ≤ w6.heap.size := BW6.size
  clear RF6 RD BW6
  by_cases hin : 0 ≤ at' ∧ at' ≤ (L : Int)
  rotate_left
  · have hsz : ¬ 9223372036854775807 < (textF bi 0 L).size + 3 := by rw [textF_size]; omega
    have N1 := rNew_none (w6.alloc (.cells #[.pointer none, .slice none 0 0, .int .i64 0, .int .i64 0, .int .i64 0, .slice (some ⟨gF, 0, none⟩) L capF, .slice (some ⟨gD, 0, none⟩) L capD] 30)) (some ⟨gD, 0, none⟩) L capD at' 1 ⟨by decide, by omega⟩
    have N2 := fun W => New_none (w := W) (p := some ⟨gF, 0, none⟩) (len := L) (cap := capF) at' 1 ⟨by decide, by omega⟩
    have F1 : Hid (1 = 1) := rfl
    have F2 : Hid (1 = 1) := rfl
    go_wp2_with (first
      | (go_at_call 6; refine N1.mono ?_; rintro _ w7 ⟨rfl, B7⟩; have BW7 := belT BX B7; have RF7 := rowIs_below RFX B7 RFX.lt)
      | (clear F1; go_at_call 7; refine (N2 _).mono ?_; rintro _ w8 ⟨rfl, B8⟩; have BW8 := belT (belT BW7 (bel1 _ _)) B8; have RF8 := rowIs_below (RF7.alloc _) B8 (RF7.alloc _).lt; have N3 := New_ok (row123 w8) f123_bd (Nat.le_refl _) (by decide) 1 (by decide) true; rw [o1] at N3)
      | (clear F2; go_at_call 7; refine N3.mono ?_; rintro _ w9 ⟨c9, rfl, hc9, C9, B9⟩; have BW9 := belT (belT BW8 (bel1 _ _)) B9; have RF9 := rowIs_below (RF8.alloc _) B9 (RF8.alloc _).lt; have N4 := New_prim (w := w9) (p := some ⟨gF, 0, none⟩) (len := L) (cap := capF) 0)
      | (go_at_call 7; refine N4.mono ?_; rintro _ w10 ⟨rfl, B10⟩; have BW10 := belT BW9 B10; have RF10 := rowIs_below RF9 B10 RF9.lt; have RM := Room_any (C9.below B10); have e31 : ((3 : Nat) : Int) - ((1 : Nat) : Int) = 2 := rfl; rw [e31] at RM)
      | (go_at_call 8; refine RM.mono ?_; rintro _ w11 ⟨rfl, m, rfl⟩; have BW11 := below_drewN BW10 m; have hcB := conv_arg (C := C) (HB.out.below BW11) hbi; have hcF := text_conv (w10.drewN m) gF capF (fM L bi) (rowIs_below RF10 (below_drewN (Below.refl _ _) m) RF10.lt) 0 (L + 3) capF (by omega)))
    go_ret
    refine ⟨ret_bool ?_, BW11⟩
    rw [text_tail, beq_self_eq_true]
  obtain ⟨a0, rfl⟩ : ∃ a0 : Nat, at' = a0 := ⟨at'.toNat, by omega⟩
  have ha0 : a0 ≤ L := by omega
  have N1 := rNew_ok (w6.alloc (.cells #[.pointer none, .slice none 0 0, .int .i64 0, .int .i64 0, .int .i64 0, .slice (some ⟨gF, 0, none⟩) L capF, .slice (some ⟨gD, 0, none⟩) L capD] 30)) (some ⟨gD, 0, none⟩) L capD a0 ha0 true
  have N2 := fun W (R : World.rowIs W gF 5 capF (fun j => .int .u8 (fM L bi j))) => New_ok R (fM_bd hbi) lF hL1 a0 ha0 true
  rw [o2] at N1 N2
  clear hin
  have F1 : Hid (1 = 1) := rfl
  have F2 : Hid (1 = 1) := rfl
  go_wp2_with (first
      | (go_at_call 6; refine N1.mono ?_; rintro _ w7 ⟨rfl, B7⟩; have BW7 := belT BX B7; have RF7 := rowIs_below RFX B7 RFX.lt; have RD7 := rowIs_below RDX B7 RDX.lt; have X7 : Hid (w7.heap[w6.heap.size]? = some (.cells #[.pointer none, .slice none 0 0, .int .i64 0, .int .i64 0, .int .i64 0, .slice (some ⟨gF, 0, none⟩) L capF, .slice (some ⟨gD, 0, none⟩) L capD] 30)) := (B7.block _ (lt_of_blk X0.out)).trans X0.out)
      | (clear F1; go_at_call 7; refine (N2 _ (RF7.alloc _)).mono ?_; rintro _ w8 ⟨c, rfl, hc, C8, B8⟩; have BW8 := belT (belT BW7 (bel1 _ _)) B8; have RD8 := rowIs_below (RD7.alloc _) B8 (RD7.alloc _).lt; have X8 : Hid (w8.heap[w6.heap.size]? = some (.cells #[.pointer none, .slice none 0 0, .int .i64 0, .int .i64 0, .int .i64 0, .slice (some ⟨gF, 0, none⟩) L capF, .slice (some ⟨gD, 0, none⟩) L capD] 30)) := (B8.block _ (by have := lt_of_blk X7.out; simp; omega)).trans (((bel1 _ _).block _ (lt_of_blk X7.out)).trans X7.out); have r8 : Hid (w8.heap[w7.heap.size]? = some (rcO (some ⟨gD, 0, none⟩) L capD a0 a0 1)) := (B8.block _ (by simp)).trans (heap_al _ _); have N3 := New_ok (row123 w8) f123_bd (Nat.le_refl _) (by decide) 1 (by decide) true; rw [o1] at N3)
      | (clear F2; go_at_call 7; refine N3.mono ?_; rintro _ w9 ⟨c9, rfl, hc9, C9, B9⟩; have BW9 := belT (belT BW8 (bel1 _ _)) B9; have N4 := New_prim (w := w9) (p := some ⟨gF, 0, none⟩) (len := L) (cap := capF) 0)
      | (go_at_call 7; refine N4.mono ?_; rintro _ w10 ⟨rfl, B10⟩; have BW10 := belT BW9 B10; have RM := Room_any (C9.below B10); have e31 : ((3 : Nat) : Int) - ((1 : Nat) : Int) = 2 := rfl; rw [e31] at RM; have B810 : Below w8.heap.size w8 w10 := belT (belT (bel1 _ _) B9) B10)
      | (go_at_call 8; refine RM.mono ?_; rintro _ w11 ⟨rfl, m, hw11⟩; have BW11 : Below w.heap.size w w11 := hw11 ▸ below_drewN BW10 m; have B811 : Below w8.heap.size w8 w11 := hw11 ▸ below_drewN B810 m; have X11 : Hid (w11.heap[w6.heap.size]? = some (.cells #[.pointer none, .slice none 0 0, .int .i64 0, .int .i64 0, .int .i64 0, .slice (some ⟨gF, 0, none⟩) L capF, .slice (some ⟨gD, 0, none⟩) L capD] 30)) := (B811.block _ (lt_of_blk X8.out)).trans X8.out; have r11 : Hid (w11.heap[w7.heap.size]? = some (rcO (some ⟨gD, 0, none⟩) L capD a0 a0 1)) := (B811.block _ (lt_of_blk r8.out)).trans r8.out; have C11 := C8.below B811; have RD11 := rowIs_below RD8 B811 RD8.lt; clear hw11 BW10 B810 RM; have y0 := cell_at X11.out 0; have y1 := cell_at X11.out 1; have y2 := cell_at X11.out 2; have y3 := cell_at X11.out 3; have y4 := cell_at X11.out 4; have yf : ∀ i, w11.frozen? ⟨w6.heap.size, i, none⟩ = false := fun i => froz_of X11.out; have q0 := cell_at r11.out 0; have q1 := cell_at r11.out 1; have q2 := cell_at r11.out 2; have q3 := cell_at r11.out 3; have n76 : ¬ w6.heap.size = w7.heap.size := (by have := lt_of_blk X7.out; omega); have n67 : ¬ w7.heap.size = w6.heap.size := (by omega)))
  have z6 := lt_of_blk X11.out
  have z7 := lt_of_blk X7.out
  have hc7 : w7.heap.size + 1 ≤ c := by simpa using hc
  have xc : w6.heap.size ≠ c := by omega
  have kc : 0 < c := by omega
  have kg : 0 < gF := by omega
  have cw : w.heap.size ≤ c := by omega
  have cD : gD ≠ c := by have := RD7.lt; omega
  have TW : Hid (Two (((((w11.setCell ⟨w6.heap.size, 0, none⟩ (.pointer (some ⟨c, 0, none⟩))).setCell ⟨w6.heap.size, 1, none⟩ (.slice (some ⟨gD, 0, none⟩) L capD)).setCell ⟨w6.heap.size, 2, none⟩ (.int .i64 (a0 : Int))).setCell ⟨w6.heap.size, 3, none⟩ (.int .i64 (a0 : Int))).setCell ⟨w6.heap.size, 4, none⟩ (.int .i64 1)) c w6.heap.size gF gD L capF capD a0 a0 true (fM L bi) (fun j => if j < L then bi j else 0)) :=
    two_begin X11.out C11 RD11 (fun j => by split; exact hbi j; omega) lD (fun j hj => by unfold fM; rw [if_pos hj, if_pos hj]) xc xF xD cD nFD kc kg ha0 hL1
  have BT : Hid (Below w.heap.size w (((((w11.setCell ⟨w6.heap.size, 0, none⟩ (.pointer (some ⟨c, 0, none⟩))).setCell ⟨w6.heap.size, 1, none⟩ (.slice (some ⟨gD, 0, none⟩) L capD)).setCell ⟨w6.heap.size, 2, none⟩ (.int .i64 (a0 : Int))).setCell ⟨w6.heap.size, 3, none⟩ (.int .i64 (a0 : Int))).setCell ⟨w6.heap.size, 4, none⟩ (.int .i64 1))) :=
    bel_set (bel_set (bel_set (bel_set (bel_set BW11 Xw) Xw) Xw) Xw) Xw
  generalize (((((w11.setCell ⟨w6.heap.size, 0, none⟩ (.pointer (some ⟨c, 0, none⟩))).setCell ⟨w6.heap.size, 1, none⟩ (.slice (some ⟨gD, 0, none⟩) L capD)).setCell ⟨w6.heap.size, 2, none⟩ (.int .i64 (a0 : Int))).setCell ⟨w6.heap.size, 3, none⟩ (.int .i64 (a0 : Int))).setCell ⟨w6.heap.size, 4, none⟩ (.int .i64 1)) = W12 at TW BT ⊢
  clear y0 y1 y2 y3 y4 yf q0 q1 q2 q3 n76 n67 X11 r11 C11 RD11 BW11 B811 X8 r8 C8 B8 BW8 RD8 N3 hc9 C9 B9 BW9 N4 B10 hc N1 N2 BX RFX RDX X0 X7 BW7 B7 RF7 RD7 xc xF xD kc kg cD nFD z6 z7 hc7
  generalize w6.heap.size = X at *
  go_loopw [115] (fun i wz => ∃ (k en : Nat) (fF fD : Nat → Int), k ≤ ops.length ∧ i = .int .i64 k ∧ Two wz c X gF gD L capF capD a0 en true fF fD ∧ (∀ j, L ≤ j → fF j = fM L bi j) ∧ Below w.heap.size w wz) (fun i _ => ops.length - (intOf i).toNat)
  case atStart => exact ⟨0, a0, _, _, Nat.zero_le _, rfl, TW.out, fun _ _ => rfl, BT.out⟩
  case round =>
    clear TW BT
    obtain ⟨k, en, fF, fD, hk, rfl, X1, X3, X2⟩ := hrel
    rename World => wz
    by_cases hlt : k < ops.length
    · obtain ⟨o, ho⟩ : ∃ o, ops[k]? = some o := ⟨ops[k], List.getElem?_eq_getElem hlt⟩
      obtain ⟨gO, bO, pc, cc, rfl, hgO, hM, hok⟩ := (HS.out.below X2).c k o ho
      have hlt' : (k : Int) < (ops.length : Int) := by omega
      have L1 := hM.load
      have sO := fun z hz => run_storeAt_new wz 50 z (opC o pc cc).toArray infoOp hz (all_oneCell_toArray (opC_one o pc cc))
      by_cases h200 : 200 ≤ k
      · have hd : decide ((200 : Int) ≤ (k : Int)) = true := decide_eq_true (by omega)
        have Y2' : Hid (Below w.heap.size w (wz.alloc (opO o pc cc))) := belT X2 (bel1 wz (opO o pc cc))
        have hcF := text_conv (wz.alloc (opO o pc cc)) gF capF fF (X1.p.row.alloc _) L 3 (capF - L) (by omega)
        rw [tail_text L bi fF X3] at hcF
        have h3 : (L : Int) + 3 ≤ (capF : Int) := by omega
        clear hM ho hgO X1 X2 X3
        go_wp2_with (first
          | (guard_target =~ wpList _ _ _ (Oper.mk _ (Op.load 50 _) _ _ _ _ :: _) _ _; go_must (refine wpList_ld 50 _ rfl rfl _ _ rfl L1 ?_); simp only [pts])
          | (guard_target =~ wpList _ _ _ (Oper.mk _ (Op.store 50 _ _) _ _ _ _ :: _) _ _; go_must (refine wpList_st 50 _ _ rfl rfl _ _ rfl rfl (sO _ rfl) ?_); simp only [pts]))
        go_ret
        exact ⟨rfl, Y2'.out⟩
      · have hd : decide ((200 : Int) ≤ (k : Int)) = false := decide_eq_false (by omega)
        have Xb : (wz.alloc (opO o pc cc)).drew.heap[wz.heap.size]? = some (opO o pc cc) := heap_al _ _
        have DO : Calls Tryd.prog 9 #[.pointer (some ⟨X, 0, none⟩), opV o pc cc] (wz.alloc (opO o pc cc)).drew fun e w' => ∃ v, e = .returned v ∧ Hid (v = .bool true ∧ ∃ (n : Nat) (fF' fD' : Nat → Int), Two w' c X gF gD L capF capD a0 n true fF' fD' ∧ (∀ j, L ≤ j → fF' j = fM L bi j) ∧ Below w.heap.size w w' ∧ w'.heap[wz.heap.size]? = some (opO o pc cc)) := by
          have Y1 := X1.below (bel1 wz (opO o pc cc)).drew
          have Y2 := belT X2 (bel1 wz (opO o pc cc)).drew
          refine (plays_any Y1 (K.out.below K.out.pos Y2) o pc cc hok).mono ?_
          rintro e w' ⟨rfl, n, f1, f2, T1, out, B⟩
          exact ⟨_, rfl, rfl, n, f1, f2, T1, fun j hj => (out j hj).trans (X3 j hj), Y2.trans (B.below cw Xw gF1 gD1 Y2.size), (B.block _ (lt_of_blk Xb) (by have := X1.p.lt; omega) (by have := X1.d.lt; omega) (by have := X1.p.row.lt; omega) (by have := X1.d.row.lt; omega)).trans Xb⟩
        have LO : ∀ V, V.heap[wz.heap.size]? = some (opO o pc cc) → (Instr.loadAt 50 (.pointer (some ⟨wz.heap.size, 0, none⟩))).run Tryd.prog V = .ok (opV o pc cc) V := fun V hV => (opM_of hV).load
        clear hM ho hgO X1 X2 X3
        go_wp2_with (first
          | (guard_target =~ wpList _ _ _ (Oper.mk _ (Op.load 50 _) _ _ _ _ :: _) _ _; go_must (refine wpList_ld 50 _ rfl rfl _ _ rfl L1 ?_); simp only [pts])
          | (guard_target =~ wpList _ _ _ (Oper.mk _ (Op.store 50 _ _) _ _ _ _ :: _) _ _; go_must (refine wpList_st 50 _ _ rfl rfl _ _ rfl rfl (sO _ rfl) ?_); simp only [pts]))
        refine wp_region_lz (fun V => V.heap[wz.heap.size]? = some (opO o pc cc)) [0, 1, 2, 3, 4, 5, 7, 8, 9, 10, 11, 6, 12, 13, 14, 15, 17, 18, 19, 20, 21, 16, 22, 23, 24, 25, 27, 28, 29, 26, 30, 31, 32, 33, 34, 35, 36, 37, 38, 39, 40, 41, 42] (by kernel_rfl) (by kernel_rfl) (fun _ _ d _ _ h => by cases d <;> exact h) Xb ?_
        refine ly_one rfl ?_
        (first | go_big_quiet_skip | (go_big_quiet_want; go_big_quiet_op; go_big_quiet_on))
        refine wpQuiet_nil ?_
        refine ly_ld (fun V hV => LO V hV) rfl (by rfl) ?_
        simp only [pts]
        refine ly_call2 ent_plays DO rfl rfl (by rfl) (fun v w8 hR => ?_)
        obtain ⟨rfl, n, fF', fD', T8, O8, B8, X8⟩ := hR.out
        obtain ⟨p, p0, pN, pX, pT, pS, pA, pR, pRR, c2, c3, c6, v1, v2⟩ := clsPl w wz.heap.size o pc cc T8 B8 X8
        refine ⟨fun V => ∃ θ : CW p, V = θ.w, fun V hV => by obtain ⟨θ, rfl⟩ := hV; exact pX θ.w θ.h, ⟨⟨_, p0⟩, rfl⟩, ly_lx ?_⟩
        simp only [pts]
        have O8' : Hid _ := O8
        clear hR T8 B8 X8 O8 DO LO L1 sO Xb pX
        repeat (refine lx_one rfl ?_; (first | go_big_quiet_skip | (go_big_quiet_want; go_big_quiet_op; go_big_quiet_on)); refine wpQuiet_nil ?_)
        refine lx_p1 ent_Start pS p0 rfl (by rfl) (fun w9 p9 => ?_)
        simp only [pts]
        repeat (refine lx_one rfl ?_; (first | go_big_quiet_skip | (go_big_quiet_want; go_big_quiet_op; go_big_quiet_on)); refine wpQuiet_nil ?_)
        refine lx_p1 ent_At pA p9 rfl (by rfl) (fun w10 p10 => ?_)
        simp only [pts]
        repeat (refine lx_one rfl ?_; (first | go_big_quiet_skip | (go_big_quiet_want; go_big_quiet_op; go_big_quiet_on)); refine wpQuiet_nil ?_)
        refine lx_p1 ent_Room pR p10 rfl (by rfl) (fun w11 p11 => ?_)
        simp only [pts]
        repeat (refine lx_one rfl ?_; (first | go_big_quiet_skip | (go_big_quiet_want; go_big_quiet_op; go_big_quiet_on)); refine wpQuiet_nil ?_)
        refine lx_p1 ent_rRoom pRR p11 rfl (by rfl) (fun w12 p12 => ?_)
        simp only [pts]
        repeat (refine lx_one rfl ?_; (first | go_big_quiet_skip | (go_big_quiet_want; go_big_quiet_op; go_big_quiet_on)); refine wpQuiet_nil ?_)
        refine lx_done ?_
        obtain ⟨T9, B9⟩ := pT _ p12
        have T9' : Hid _ := T9
        have B9' : Hid _ := B9
        clear pS pA pR pRR c2 c3 c6 v1 v2 pT T9 B9 p0 p9 p10 p11 p12
        go_wp2_with fail
        exact ⟨⟨k + 1, n, fF', fD', by omega, by go_num, T9'.out, O8'.out, B9'.out⟩, by simp [intOf]; omega⟩
    · have hcF := text_conv wz gF capF fF X1.p.row L 3 (capF - L) (by omega)
      rw [tail_text L bi fF X3] at hcF
      have h3 : (L : Int) + 3 ≤ (capF : Int) := by omega
      have X2' : Hid _ := X2
      clear X1 X2 X3
      go_wp2
      go_ret
      exact ⟨rfl, X2'.out⟩
end Go.Proofs.YtgklippjoikadaaDoor

/- The law TreePrints. -/
import Derived.Test.YtchfphakhmifmaaGreatDoorTRp
import Derived.Test.YtchfphakhmifmaaGreatDoorPA
namespace Go.Proofs.YtchfphakhmifmaaGreatDoor
open Go.ChangeShapes Go.WideShapes Go.ChangeAt Go.RowKit Go.Lib

theorem pnum_any (e : Int) (w : World) : Calls Tryz.prog 13 #[.int .i64 e] w fun r w' => r = .returned (.int .i64 e) ∧ w' = w := by
  go_enter Tryz.func13, Tryz.ntmps13
  go_wp2_with fail
  go_ret
  exact ⟨rfl, rfl⟩
theorem PSz.l72 {es : List El} (h : PSz es) : es.length * 72 ≤ 140737488351232 := by have := h.n; omega
theorem PSz.a40 {es : List El} (h : PSz es) : ∀ e ∈ es, e.ats.length * 40 ≤ 140737488351232 := fun e he => by have := (h.s e he).2.2.1; omega
set_option maxRecDepth 100000 in
set_option maxHeartbeats 8000000 in
theorem TreePrints_any (pa pb : Option Addr) (ca cb : Nat) (es fs : List El) (w : World) (ha : ERow w pa w.heap.size es) (hb : ERow w pb w.heap.size fs) (hz : PSz es) (hy : PSz fs) (hE : Env w) (hS : ShpTab w) (h7 : 7 ≤ w.heap.size) :
    Calls Tryz.prog 3 #[.slice pa es.length ca, .slice pb fs.length cb] w fun e w' => e = .returned (.bool true) ∧ Below w.heap.size w w' := by
  have A : ∀ W, Below w.heap.size w W → ERow W pa W.heap.size es := fun W h => (ha.below h).mono h.size
  have Bv : ∀ W, Below w.heap.size w W → ERow W pb W.heap.size fs := fun W h => (hb.below h).mono h.size
  have G1 : Hid (∀ W, Below w.heap.size w W → Calls Tryz.prog 8 #[.slice pa es.length ca] W fun e w' => e = .returned (.tuple #[.int .i64 ((chkZ es).1 : Int), .int .i64 ((chkZ es).2 : Int)]) ∧ Below w.heap.size w w') := Hid.mkV fun W h => (refCheck_any pa ca es W (A W h) hz).mono fun _ _ ⟨q1, q2⟩ => ⟨q1, h.trans (q2.mono h.size)⟩
  have G2 : Hid (∀ W, Below w.heap.size w W → Calls Tryz.prog 9 #[.slice pa es.length ca] W fun e w' => e = .returned (.tuple #[.string (sOf (prtZ es).1), .int .i64 ((prtZ es).2.1 : Int), .int .i64 ((prtZ es).2.2 : Int)]) ∧ Below w.heap.size w w') := Hid.mkV fun W h => (refPrint_any pa ca es W (A W h) hz).mono fun _ _ ⟨q1, q2⟩ => ⟨q1, h.trans (q2.mono h.size)⟩
  have G3 : Hid (∀ W, Below w.heap.size w W → Calls Tryz.prog 10 #[.slice pa es.length ca, .slice pb fs.length cb] W fun e w' => e = .returned (.bool (sameEs es fs)) ∧ Below w.heap.size w w') := Hid.mkV fun W h => (refSame_any es fs pa pb ca cb W (A W h) (Bv W h) (by have := hz.n; omega) (fun a h => by have := (hz.s a h).2.2.1; omega)).mono fun _ _ ⟨q1, q2⟩ => ⟨q1, h.trans (q2.mono h.size)⟩
  have G4 : Hid (∀ W, Below w.heap.size w W → Calls Tryz.prog 11 #[.slice pa es.length ca] W fun e w' => ∃ g cap, e = .returned (.slice (some ⟨g, 0, none⟩) es.length cap) ∧ CRow w' W.heap.size g cap es ∧ Below W.heap.size W w') := Hid.mkV fun W h => copied_any pa ca es W (A W h) hz.l72 hz.a40
  have G5 : Hid (∀ W, Below w.heap.size w W → Calls Tryz.prog 11 #[.slice pb fs.length cb] W fun e w' => ∃ g cap, e = .returned (.slice (some ⟨g, 0, none⟩) fs.length cap) ∧ CRow w' W.heap.size g cap fs ∧ Below W.heap.size W w') := Hid.mkV fun W h => copied_any pb cb fs W (Bv W h) hy.l72 hy.a40
  have G6 : Hid (∀ W b g cap, CRow W b g cap es → Calls Tryz.prog 12 #[.slice (some ⟨g, 0, none⟩) es.length cap] W fun e w' => e = .returned (.tuple #[.int .i64 ((chkZ es).1 : Int), .int .i64 ((chkZ es).2 : Int)]) ∧ Below W.heap.size W w') := Hid.mkV fun W b g cap h => tCheck_any _ cap es W h.ec hz
  have G7 : Hid (∀ W b g cap, Below w.heap.size w W → CRow W b g cap es → Calls Tryz.prog 14 #[.slice (some ⟨g, 0, none⟩) es.length cap] W fun e w' => e = .returned (.tuple #[.string (sOf (prtZ es).1), .int .i64 ((prtZ es).2.1 : Int), .int .i64 ((prtZ es).2.2 : Int)]) ∧ Below W.heap.size W w') := Hid.mkV fun W b g cap hW h => tPrint_any _ cap es W h.ec hz (hE.below hW h7) (hS.below hW h7) (Nat.le_trans h7 hW.size)
  have G8 : Hid (∀ W b g cap b2 g2 cap2, CRow W b g cap es → CRow W b2 g2 cap2 fs → Calls Tryz.prog 15 #[.slice (some ⟨g, 0, none⟩) es.length cap, .slice (some ⟨g2, 0, none⟩) fs.length cap2] W fun e w' => e = .returned (.bool (sameEs es fs)) ∧ Below W.heap.size W w') := Hid.mkV fun W b g cap b2 g2 cap2 h h2 => Same_any es fs _ _ cap cap2 W h.er h2.er (by have := hz.n; omega) (fun a h => by have := (hz.s a h).2.2.1; omega)
  have G9 : Hid (∀ W b g cap, Below w.heap.size w W → CRow W b g cap es → Calls Tryz.prog 16 #[.slice (some ⟨g, 0, none⟩) es.length cap, .slice pa es.length ca] W fun e w' => e = .returned (.bool true) ∧ Below W.heap.size W w') := Hid.mkV fun W b g cap hW h => untouched_any pa b g cap ca es W h (A W hW) hz.l72 hz.a40
  have G10 : Hid (∀ W b g cap, Below w.heap.size w W → CRow W b g cap fs → Calls Tryz.prog 16 #[.slice (some ⟨g, 0, none⟩) fs.length cap, .slice pb fs.length cb] W fun e w' => e = .returned (.bool true) ∧ Below W.heap.size W w') := Hid.mkV fun W b g cap hW h => untouched_any pb b g cap cb fs W h (Bv W hW) hy.l72 hy.a40
  clear A Bv ha hb hz hy hE hS h7
  generalize chkZ es = q1 at *
  obtain ⟨qa, qb⟩ := q1
  generalize prtZ es = q2 at *
  obtain ⟨ra, rb, rc⟩ := q2
  generalize sameEs es fs = sm at *
  simp only at G1 G2 G6 G7
  generalize sOf ra = tx at *
  have e1 : ((qa : Int) != (qa : Int)) = false := by simp
  have e2 : ((qb : Int) != (qb : Int)) = false := by simp
  have e3 : ((rb : Int) == (rb : Int)) = true := by simp
  have e4 : ((rc : Int) == (rc : Int)) = true := by simp
  have e5 : (tx.toList == tx.toList) = true := by simp
  have e6 : (sm == sm) = true := by simp
  go_enter Tryz.func3, Tryz.ntmps3
  go_wp2_with fail
  refine (G1.out w (Below.refl _ _)).mono ?_
  rintro _ w1 ⟨rfl, b1⟩
  go_wp2_with fail
  refine (G2.out w1 b1).mono ?_
  rintro _ w2 ⟨rfl, b2⟩
  go_wp2_with fail
  refine (G3.out w2 b2).mono ?_
  rintro _ w3 ⟨rfl, b3⟩
  go_wp2_with fail
  refine (G4.out w3 b3).mono ?_
  rintro _ w4 ⟨g, cap, rfl, c4, k4⟩
  have b4 := b3.trans (k4.mono b3.size)
  go_wp2_with fail
  refine (G5.out w4 b4).mono ?_
  rintro _ w5 ⟨g2, cap2, rfl, d5, k5⟩
  have b5 := b4.trans (k5.mono b4.size)
  have c5 := c4.below k5
  go_wp2_with fail
  refine (G6.out w5 _ g cap c5).mono ?_
  rintro _ w6 ⟨rfl, k6⟩
  have b6 := b5.trans (k6.mono b5.size)
  have c6 := c5.below k6
  have d6 := d5.below k6
  clear c4 c5 d5 k4 k5 k6 b1 b2 b3 b4 b5 G1 G2 G3 G4 G5 G6
  go_wp2_with fail
  refine (pnum_any _ _).mono ?_
  rintro _ _ ⟨rfl, rfl⟩
  go_wp2_with fail
  refine (pnum_any _ _).mono ?_
  rintro _ _ ⟨rfl, rfl⟩
  go_wp2_with fail
  refine (G7.out _ _ g cap b6 c6).mono ?_
  rintro _ w7 ⟨rfl, k7⟩
  have b7 := b6.trans (k7.mono b6.size)
  have c7 := c6.below k7
  have d7 := d6.below k7
  clear c6 d6 k7 b6 G7
  go_wp2_with fail
  refine (pnum_any _ _).mono ?_
  rintro _ _ ⟨rfl, rfl⟩
  go_wp2_with fail
  refine (pnum_any _ _).mono ?_
  rintro _ _ ⟨rfl, rfl⟩
  go_wp2_with fail
  refine (G8.out _ _ g cap _ g2 cap2 c7 d7).mono ?_
  rintro _ w8 ⟨rfl, k8⟩
  have b8 := b7.trans (k8.mono b7.size)
  have c8 := c7.below k8
  have d8 := d7.below k8
  clear c7 d7 k8 b7 G8
  go_wp2_with fail
  refine (G9.out _ _ g cap b8 c8).mono ?_
  rintro _ w9 ⟨rfl, k9⟩
  have b9 := b8.trans (k9.mono b8.size)
  have d9 := d8.below k9
  clear c8 d8 k9 b8 G9
  go_wp2_with fail
  refine (G10.out _ _ g2 cap2 b9 d9).mono ?_
  rintro _ w10 ⟨rfl, k10⟩
  go_wp2_with fail
  go_ret
  exact ⟨rfl, b9.trans (k10.mono b9.size)⟩
end Go.Proofs.YtchfphakhmifmaaGreatDoor

/- IRa, IOp, ICt, IPs, NStep. -/
import Derived.Test.YtepnmfgbflogkaaDoorF05
import Derived.Test.YtepnmfgbflogkaaDoorF09
import Derived.Test.YtepnmfgbflogkaaDoorF04
import Derived.Test.YtepnmfgbflogkaaDoorProg
import Derived.WalkKit
import Derived.WalkSpells
import Derived.WalkLawsBesides
import Derived.ProofKit
import Derived.Deep.RegionHeld
import Derived.Shelf.Abstract
namespace Go.Proofs.YtepnmfgbflogkaaDoor
open Go.ChangeShapes Go.WideShapes Go.ChangeAt Go.RowKit Go.Shelf Go.Maps

theorem ent_top : ∀ ag w, (callFunc 59 ag).run Tryd.prog w = .ok (.enter 59 ag) w := enters_of Tryd.func59 (by kernel_rfl) rfl
theorem ent_isNewI : ∀ ag w, (callFunc 85 ag).run Tryd.prog w = .ok (.enter 85 ag) w := enters_of Tryd.func85 (by kernel_rfl) rfl
theorem ent_isNewN : ∀ ag w, (callFunc 86 ag).run Tryd.prog w = .ok (.enter 86 ag) w := enters_of Tryd.func86 (by kernel_rfl) rfl
theorem ent_isNewV : ∀ ag w, (callFunc 75 ag).run Tryd.prog w = .ok (.enter 75 ag) w := enters_of Tryd.func75 (by kernel_rfl) rfl
theorem ent_isNewName : ∀ ag w, (callFunc 74 ag).run Tryd.prog w = .ok (.enter 74 ag) w := enters_of Tryd.func74 (by kernel_rfl) rfl
theorem ent_isNewPart : ∀ ag w, (callFunc 66 ag).run Tryd.prog w = .ok (.enter 66 ag) w := enters_of Tryd.func66 (by kernel_rfl) rfl
theorem notin1 {a b : Nat} (h : a ≠ b) : a ∉ [b] := fun e => h (List.mem_singleton.1 e)
/-- The key of a name in what begins at a place. -/
abbrev nmK (a : Nat) (s : ByteArray) : Value := .agg #[.int .i64 (a : Int), .string s]
set_option maxRecDepth 20000 in
theorem isNewName_any (B gf go n cap g o gt ot m1 m2 m3 nn : Nat) (i : Int) (rl : Value) (dep : Nat → Int) (wh : Bool) (t : Tk) (x : Sv) (pc : Option Addr) (cc : Nat) (hs : Value → Prop) (b : Bool) (w : World)
    (hC : CkC w B gf (.slice (some ⟨go, 0, none⟩) (n + 1) cap) i rl m1 m2 m3 dep wh) (hX : ScC w g o go (n * 8) x) (hgo : go < w.heap.size) (hT : TkC w gt ot t pc cc) (hgt : gt < w.heap.size) (hM : MHas w 147 m2 nn hs)
    (nB : B ≠ m2) (nG : go ≠ m2) (nT : gt ≠ m2) (hn : n < 1000000000000) (hnn : nn < 17592186044416) (hx : (x.at_ : Int) ≤ 9223372036854775807) (hl : t.name.size ≤ 281474976710656) (hi : i64ok i) (hb : b = true ↔ ¬ hs (nmK x.at_ t.name)) :
    Calls Tryd.prog 74 #[.pointer (some ⟨B, 0, none⟩), .pointer (some ⟨gt, ot, none⟩)] w fun r w' => r = .returned (.bool b) ∧ MHas w' 147 m2 (nn + 1) (fun v => v = nmK x.at_ t.name ∨ hs v) ∧ Kb [m2] w w' := by
  obtain ⟨p, pB, pK, hN, f0, f1, f2, f3⟩ : ∃ p : World → Prop, (∀ W, p W → Kb [m2] w W) ∧
      (∀ W, Kb [m2] w W → p W) ∧
      Nonempty (CW p) ∧
      (∀ θ : CW p, θ.w.cell? ⟨B, 21, none⟩ = some (.map (some m2))) ∧
      (∀ θ : CW p, θ.w.cell? ⟨B, 2, none⟩ = some (.int .i64 i)) ∧
      (∀ θ : CW p, θ.w.cell? ⟨go, n * 8 + 1, none⟩ = some (.int .i64 (x.at_ : Int))) ∧
      (∀ θ : CW p, θ.w.cell? ⟨gt, ot + 1, none⟩ = some (.string t.name)) :=
    ⟨Kb [m2] w,
      fun _ h => h,
      fun _ h => h,
      ⟨⟨_, Kb.refl _ _⟩⟩,
      fun θ => (θ.h.cell hC.lt (notin1 nB)).trans hC.c21,
      fun θ => (θ.h.cell hC.lt (notin1 nB)).trans hC.c2,
      fun θ => (θ.h.cell hgo (notin1 nG)).trans hX.c1,
      fun θ => (θ.h.cell hgt (notin1 nT)).trans hT.c1⟩
  have hml := hM.lt
  go_enter Tryd.func74, Tryd.ntmps74
  go_wp2_with fail
  refine wp_region_pp p [0, 1, 2, 3, 4, 5, 6, 11, 12, 13, 14, 16, 17, 18, 19, 7, 8, 9, 10, 15, 20, 21] (by kernel_rfl) (by kernel_rfl) (fun _ _ d _ _ h => by cases d <;> exact h) (pK _ (Kb.refl _ _).drew) ?_
  simp only [List.filterMap_cons, List.filterMap_nil, List.getElem?_cons_zero, List.getElem?_cons_succ]
  repeat (refine lx_one rfl ?_; (first | go_big_quiet_skip | (go_big_quiet_want; go_big_quiet_op; go_big_quiet_on)); refine wpQuiet_nil ?_)
  refine lx_call1 ent_top (top_any B go n cap _ hC.c0 hn) rfl (by rfl) ?_
  intro W1 hb1
  have k1 : Kb [m2] w W1 := (Kb.refl _ _).drew.trans (Kb.of_below hb1)
  refine ⟨⟨⟨_, pK _ k1⟩, rfl⟩, ?_⟩
  simp only [pts]
  repeat (refine lx_one rfl ?_; (first | go_big_quiet_skip | (go_big_quiet_want; go_big_quiet_op; go_big_quiet_on)); refine wpQuiet_nil ?_)
  refine lx_call3 ent_isNewN (isNewN_any m2 nn x.at_ i t.name hs b W1 (hM.same (hb1.block m2 hml)) hnn ⟨by omega, hx⟩ (by unfold maxLen; omega) hi hb) rfl rfl rfl (by rfl) ?_
  rintro W2 ⟨hM2, hg2⟩
  have k2 : Kb [m2] w W2 := k1.trans (Kb.of_grown hg2 (List.mem_singleton.2 rfl))
  refine ⟨⟨⟨_, pK _ k2⟩, rfl⟩, ?_⟩
  simp only [pts]
  repeat (refine lx_one rfl ?_; (first | go_big_quiet_skip | (go_big_quiet_want; go_big_quiet_op; go_big_quiet_on)); refine wpQuiet_nil ?_)
  refine lx_done ?_
  go_wp2_with fail
  go_ret
  exact ⟨rfl, hM2, k2⟩
theorem notin2 {a b c : Nat} (h : a ≠ b) (h' : a ≠ c) : a ∉ [b, c] := fun e => by simp at e; omega
set_option maxRecDepth 20000 in
set_option maxHeartbeats 1000000 in
theorem isNewPart_any (B gf go n cap g o gt ot m1 m2 m3 n1 nn : Nat) (i : Int) (rl : Value) (dep : Nat → Int) (wh : Bool) (t : Tk) (x : Sv) (pc : Option Addr) (cc : Nat) (h1 hs : Value → Prop) (b1 b : Bool) (w : World)
    (hC : CkC w B gf (.slice (some ⟨go, 0, none⟩) (n + 1) cap) i rl m1 m2 m3 dep wh) (hX : ScC w g o go (n * 8) x) (hgo : go < w.heap.size) (hT : TkC w gt ot t pc cc) (hgt : gt < w.heap.size) (hM1 : MHas w 3 m1 n1 h1) (hM : MHas w 147 m2 nn hs)
    (nB : B ≠ m2) (nG : go ≠ m2) (nT : gt ≠ m2) (nB1 : B ≠ m1) (nG1 : go ≠ m1) (nT1 : gt ≠ m1) (n12 : m1 ≠ m2) (hn : n < 1000000000000) (hn1 : n1 < 17592186044416) (hnn : nn < 17592186044416) (hx : (x.at_ : Int) ≤ 9223372036854775807) (hk : TkOk t) (hi : i64ok i) (hb1 : b1 = true ↔ ¬ h1 (.int .i64 t.id)) (hb : b = true ↔ ¬ hs (nmK x.at_ t.name)) :
    Calls Tryd.prog 66 #[.pointer (some ⟨B, 0, none⟩), .pointer (some ⟨gt, ot, none⟩)] w fun r w' => r = .returned (.bool (bet t.id 0 65535 && b1 && b)) ∧ Kb [m1, m2] w w' ∧ ((bet t.id 0 65535 && b1 && b) = true → MHas w' 3 m1 (n1 + 1) (fun v => v = .int .i64 t.id ∨ h1 v) ∧ MHas w' 147 m2 (nn + 1) (fun v => v = nmK x.at_ t.name ∨ hs v)) := by
  obtain ⟨p, pB, pK, hN, f0, f1, f2, cN⟩ : ∃ p : World → Prop, (∀ W, p W → Kb [m1, m2] w W) ∧
      (∀ W, Kb [m1, m2] w W → p W) ∧
      Nonempty (CW p) ∧
      (∀ θ : CW p, θ.w.cell? ⟨B, 20, none⟩ = some (.map (some m1))) ∧
      (∀ θ : CW p, θ.w.cell? ⟨B, 2, none⟩ = some (.int .i64 i)) ∧
      (∀ θ : CW p, θ.w.cell? ⟨gt, ot + 2, none⟩ = some (.int .i64 t.id)) ∧
      (∀ W, p W → Calls Tryd.prog 41 #[.int .i64 t.id, .int .i64 0, .int .i64 65535] W fun e w' => e = .returned (.bool (bet t.id 0 65535)) ∧ w' = W) :=
    ⟨Kb [m1, m2] w,
      fun _ h => h,
      fun _ h => h,
      ⟨⟨_, Kb.refl _ _⟩⟩,
      fun θ => (θ.h.cell hC.lt (notin2 nB1 nB)).trans hC.c20,
      fun θ => (θ.h.cell hC.lt (notin2 nB1 nB)).trans hC.c2,
      fun θ => (θ.h.cell hgt (notin2 nT1 nT)).trans hT.c2,
      fun W _ => isBetween_any _ _ _ W⟩
  have cI := isNewI_any m1 n1 t.id i h1 b1 w.drew hM1 hn1 hk.id hi hb1
  clear hb1
  replace hb : Hid (b = true ↔ ¬ hs (nmK x.at_ t.name)) := ⟨hb⟩
  rcases ch2 (bet t.id 0 65535) b1 with e0 | ⟨e0, e1⟩ | ⟨e0, e1⟩
  · rw [e0] at cN ⊢
    go_enter Tryd.func66, Tryd.ntmps66
    go_wp2_with fail
    refine wp_region_lx p (by kernel_rfl) (by kernel_rfl) (fun _ _ d _ _ h => by cases d <;> exact h) (pK _ (Kb.refl _ _).drew) ?_
    repeat (first | (refine lx_one rfl ?_; (first | go_big_quiet_skip | (go_big_quiet_want; go_big_quiet_op; go_big_quiet_on)); refine wpQuiet_nil ?_) | (refine lx_skip (by rfl) ?_; simp only [pts]))
    refine lx_call3 ent_isBetween (cN _ (pK _ (Kb.refl _ _).drew)) rfl rfl rfl (by rfl) ?_
    rintro _ rfl
    refine ⟨⟨⟨_, pK _ (Kb.refl _ _).drew⟩, rfl⟩, ?_⟩
    simp only [pts]
    repeat (first | (refine lx_one rfl ?_; (first | go_big_quiet_skip | (go_big_quiet_want; go_big_quiet_op; go_big_quiet_on)); refine wpQuiet_nil ?_) | (refine lx_skip (by rfl) ?_; simp only [pts]))
    refine lx_done ?_
    go_wp2_with fail
    go_ret
    exact ⟨rfl, (Kb.refl _ _).drew, fun h => by cases h⟩
  · rw [e0] at cN ⊢
    rw [e1] at cI ⊢
    go_enter Tryd.func66, Tryd.ntmps66
    go_wp2_with fail
    refine wp_region_lx p (by kernel_rfl) (by kernel_rfl) (fun _ _ d _ _ h => by cases d <;> exact h) (pK _ (Kb.refl _ _).drew) ?_
    repeat (first | (refine lx_one rfl ?_; (first | go_big_quiet_skip | (go_big_quiet_want; go_big_quiet_op; go_big_quiet_on)); refine wpQuiet_nil ?_) | (refine lx_skip (by rfl) ?_; simp only [pts]))
    refine lx_call3 ent_isBetween (cN _ (pK _ (Kb.refl _ _).drew)) rfl rfl rfl (by rfl) ?_
    rintro _ rfl
    refine ⟨⟨⟨_, pK _ (Kb.refl _ _).drew⟩, rfl⟩, ?_⟩
    simp only [pts]
    repeat (first | (refine lx_one rfl ?_; (first | go_big_quiet_skip | (go_big_quiet_want; go_big_quiet_op; go_big_quiet_on)); refine wpQuiet_nil ?_) | (refine lx_skip (by rfl) ?_; simp only [pts]))
    refine lx_call3 ent_isNewI cI rfl rfl rfl (by rfl) ?_
    rintro W1 ⟨hA, hg1⟩
    have k1 : Kb [m1, m2] w W1 := (Kb.refl _ _).drew.trans (Kb.of_grown hg1 (by simp))
    refine ⟨⟨⟨_, pK _ k1⟩, rfl⟩, ?_⟩
    simp only [pts]
    repeat (first | (refine lx_one rfl ?_; (first | go_big_quiet_skip | (go_big_quiet_want; go_big_quiet_op; go_big_quiet_on)); refine wpQuiet_nil ?_) | (refine lx_skip (by rfl) ?_; simp only [pts]))
    refine lx_done ?_
    go_wp2_with fail
    go_ret
    exact ⟨rfl, k1, fun h => by cases h⟩
  · rw [e0] at cN ⊢
    rw [e1] at cI ⊢
    go_enter Tryd.func66, Tryd.ntmps66
    go_wp2_with fail
    refine wp_region_lx p (by kernel_rfl) (by kernel_rfl) (fun _ _ d _ _ h => by cases d <;> exact h) (pK _ (Kb.refl _ _).drew) ?_
    repeat (first | (refine lx_one rfl ?_; (first | go_big_quiet_skip | (go_big_quiet_want; go_big_quiet_op; go_big_quiet_on)); refine wpQuiet_nil ?_) | (refine lx_skip (by rfl) ?_; simp only [pts]))
    refine lx_call3 ent_isBetween (cN _ (pK _ (Kb.refl _ _).drew)) rfl rfl rfl (by rfl) ?_
    rintro _ rfl
    refine ⟨⟨⟨_, pK _ (Kb.refl _ _).drew⟩, rfl⟩, ?_⟩
    simp only [pts]
    repeat (first | (refine lx_one rfl ?_; (first | go_big_quiet_skip | (go_big_quiet_want; go_big_quiet_op; go_big_quiet_on)); refine wpQuiet_nil ?_) | (refine lx_skip (by rfl) ?_; simp only [pts]))
    refine lx_call3 ent_isNewI cI rfl rfl rfl (by rfl) ?_
    rintro W1 ⟨hA, hg1⟩
    have k1 : Kb [m1, m2] w W1 := (Kb.refl _ _).drew.trans (Kb.of_grown hg1 (by simp))
    refine ⟨⟨⟨_, pK _ k1⟩, rfl⟩, ?_⟩
    simp only [pts]
    repeat (first | (refine lx_one rfl ?_; (first | go_big_quiet_skip | (go_big_quiet_want; go_big_quiet_op; go_big_quiet_on)); refine wpQuiet_nil ?_) | (refine lx_skip (by rfl) ?_; simp only [pts]))
    have q : ∀ k, k < w.heap.size → k ≠ m1 → W1.heap[k]? = w.heap[k]? := fun k hk hne => hg1.block k hk (by simpa using hne)
    refine lx_call2 ent_isNewName (isNewName_any B gf go n cap g o gt ot m1 m2 m3 nn i rl dep wh t x pc cc hs b W1 (hC.same hg1.size (q B hC.lt nB1)) (hX.same (q go hgo nG1)) (Nat.lt_of_lt_of_le hgo hg1.size) (hT.same (q gt hgt nT1)) (Nat.lt_of_lt_of_le hgt hg1.size) (hM.same (q m2 hM.lt (Ne.symm n12))) nB nG nT hn hnn hx hk.name hi hb.out) rfl rfl (by rfl) ?_
    rintro W2 ⟨hE, hk2⟩
    have k2 : Kb [m1, m2] w W2 := k1.trans (hk2.mono (by simp))
    have hA2 := hA.same (hk2.block m1 hA.lt (notin1 n12))
    refine ⟨⟨⟨_, pK _ k2⟩, rfl⟩, ?_⟩
    simp only [pts]
    repeat (first | (refine lx_one rfl ?_; (first | go_big_quiet_skip | (go_big_quiet_want; go_big_quiet_op; go_big_quiet_on)); refine wpQuiet_nil ?_) | (refine lx_skip (by rfl) ?_; simp only [pts]))
    refine lx_done ?_
    go_wp2_with fail
    go_ret
    exact ⟨rfl, k2, fun _ => ⟨hA2, hE⟩⟩
end Go.Proofs.YtepnmfgbflogkaaDoor
namespace Go.Proofs.YtepnmfgbflogkaaDoor
open Go.ChangeShapes Go.WideShapes Go.ChangeAt Go.RowKit Go.Shelf

theorem op_cases (op : Int) : (op < 0 ∨ 15 < op) ∨ op = 0 ∨ op = 1 ∨ op = 2 ∨ op = 3 ∨ op = 4 ∨ op = 5 ∨ op = 6 ∨ op = 7 ∨ op = 8 ∨ op = 9 ∨ op = 10 ∨ op = 11 ∨ op = 12 ∨ op = 13 ∨ op = 14 ∨ op = 15 := by omega
theorem endOf_any (op : Int) (w : World) (h : -100 ≤ op ∧ op ≤ 100) : Calls Tryd.prog 77 #[.int .i64 op] w fun r w' => r = .returned (.int .i64 (op + 1)) ∧ w' = w := by
  have hw : IntKind.i64.wrap (op + 1) = op + 1 := by rw [IntKind.wrap_i64]; omega
  go_enter Tryd.func77, Tryd.ntmps77
  go_wp2_with fail
  go_ret
  exact ⟨rfl, rfl⟩
theorem begins_any (op : Int) (w : World) (h : 0 ≤ op ∧ op ≤ 15) : Calls Tryd.prog 60 #[.int .i64 op] w fun r w' => r = .returned (.bool (bgO op)) ∧ w' = w := by
  rcases op_cases op with h' | rfl | rfl | rfl | rfl | rfl | rfl | rfl | rfl | rfl | rfl | rfl | rfl | rfl | rfl | rfl | rfl
  · omega
  all_goals
    go_enter Tryd.func60, Tryd.ntmps60
    go_wp2_with fail
    go_ret
    exact ⟨rfl, rfl⟩
theorem ends_any (op : Int) (w : World) (h : 0 ≤ op ∧ op ≤ 15) : Calls Tryd.prog 56 #[.int .i64 op] w fun r w' => r = .returned (.bool (edO op)) ∧ w' = w := by
  rcases op_cases op with h' | rfl | rfl | rfl | rfl | rfl | rfl | rfl | rfl | rfl | rfl | rfl | rfl | rfl | rfl | rfl | rfl
  · omega
  all_goals
    go_enter Tryd.func56, Tryd.ntmps56
    go_wp2_with fail
    go_ret
    exact ⟨rfl, rfl⟩
theorem beqN {a b : Int} (h : a ≠ b) : (a == b) = false := beq_eq_false_iff_ne.2 h
theorem beqD (a b : Int) : (a == b) = decide (a = b) := by rw [Bool.eq_iff_iff]; simp
theorem isPart_any (op : Int) (w : World) : Calls Tryd.prog 78 #[.int .i64 op] w fun r w' => r = .returned (.bool (ptO op)) ∧ w' = w := by
  unfold ptO
  by_cases h2 : op = 2
  · subst h2
    go_enter Tryd.func78, Tryd.ntmps78
    go_wp2_with fail
    go_ret
    exact ⟨rfl, rfl⟩
  have d2 := beqN h2
  by_cases h4 : op = 4
  · subst h4
    go_enter Tryd.func78, Tryd.ntmps78
    go_wp2_with fail
    go_ret
    exact ⟨rfl, rfl⟩
  have d4 := beqN h4
  go_enter Tryd.func78, Tryd.ntmps78
  go_wp2_with fail
  go_ret
  exact ⟨rb (by rw [Bool.eq_iff_iff]; simp [h2, h4]), rfl⟩
theorem isType_any (op : Int) (w : World) : Calls Tryd.prog 79 #[.int .i64 op] w fun r w' => r = .returned (.bool (tyO op)) ∧ w' = w := by
  unfold tyO
  by_cases h14 : op = 14
  · subst h14
    go_enter Tryd.func79, Tryd.ntmps79
    go_wp2_with fail
    go_ret
    exact ⟨rfl, rfl⟩
  have d14 := beqN h14
  by_cases h10 : op = 10
  · subst h10
    go_enter Tryd.func79, Tryd.ntmps79
    go_wp2_with fail
    go_ret
    exact ⟨rfl, rfl⟩
  have d10 := beqN h10
  by_cases h12 : op = 12
  · subst h12
    go_enter Tryd.func79, Tryd.ntmps79
    go_wp2_with fail
    go_ret
    exact ⟨rfl, rfl⟩
  have d12 := beqN h12
  go_enter Tryd.func79, Tryd.ntmps79
  go_wp2_with fail
  go_ret
  exact ⟨rb (by rw [Bool.eq_iff_iff]; simp [h14, h10, h12]), rfl⟩
theorem tmod2 {op : Int} (h : 0 ≤ op) (q : bgO op = false) (h14 : op < 14) : (op.tmod 2 == 0) = false := by
  rw [Int.tmod_eq_emod_of_nonneg h]
  refine beq_eq_false_iff_ne.2 fun e => ?_
  unfold bgO at q
  have := of_decide_eq_false q
  omega
end Go.Proofs.YtepnmfgbflogkaaDoor
namespace Go.Proofs.YtepnmfgbflogkaaDoor
open Go.ChangeShapes Go.WideShapes Go.ChangeAt Go.RowKit Go.Shelf Go.Maps

/-- Where all lies: the checker, the form, the row of what is open and its room, the tokens, the three maps; the place; ahead of block H nothing is the checker's own. -/
structure Cf where
  B : Nat
  gf : Nat
  go : Nat
  cap : Nat
  g : Nat
  o : Nat
  cp : Nat
  m1 : Nat
  m2 : Nat
  m3 : Nat
  H : Nat
  i : Nat
structure Apart (c : Cf) : Prop where
  g : c.g < c.H
  gf : c.H ≤ c.gf
  B : c.H ≤ c.B
  go : c.H ≤ c.go
  m1 : c.H ≤ c.m1
  m2 : c.H ≤ c.m2
  m3 : c.H ≤ c.m3
  fB : c.gf ≠ c.B
  fo : c.gf ≠ c.go
  f1 : c.gf ≠ c.m1
  f2 : c.gf ≠ c.m2
  f3 : c.gf ≠ c.m3
  Bo : c.B ≠ c.go
  B1 : c.B ≠ c.m1
  B2 : c.B ≠ c.m2
  B3 : c.B ≠ c.m3
  o1 : c.go ≠ c.m1
  o2 : c.go ≠ c.m2
  o3 : c.go ≠ c.m3
  m12 : c.m1 ≠ c.m2
  m13 : c.m1 ≠ c.m3
  m23 : c.m2 ≠ c.m3
structure Ct (w : World) (c : Cf) (f : Fm) (L : List Sv) (x : Sv) (xt t : Tk) (rl : Value) (dep : Nat → Int) (wh : Bool) : Prop where
  ck : CkC w c.B c.gf (.slice (some ⟨c.go, 0, none⟩) (L.length + 1) c.cap) (c.i : Int) rl c.m1 c.m2 c.m3 dep wh
  op : OpR w c.g c.o c.go c.cap (L ++ [x])
  fm : FmC w c.gf 0 f (some ⟨c.g, c.o, none⟩) c.cp
  tl : TkL w (some ⟨c.g, c.o, none⟩) c.H f.toks
  hx : f.toks[x.at_]? = some xt
  ht : f.toks[c.i]? = some t
  ap : Apart c
  kt : KT w
  sz : c.H ≤ w.heap.size
  fl : c.gf < w.heap.size
  k0 : 1 < c.H
  ln : L.length < 1000000000000
theorem KT.same {w w' : World} (h : KT w) (hs : w.heap.size ≤ w'.heap.size) (hb : w'.heap[1]? = w.heap[1]?) : KT w' :=
  ⟨Nat.lt_of_lt_of_le h.pos hs, fun p hp => (cell_blk hb).trans (h.size p hp), fun p hp => (cell_blk hb).trans (h.reading p hp), fun p hp => (cell_blk hb).trans (h.null p hp), fun p hp => (cell_blk hb).trans (h.least p hp), fun p hp => (cell_blk hb).trans (h.most p hp)⟩
section
variable {w w' : World} {c : Cf} {f : Fm} {L : List Sv} {x x' : Sv} {xt t : Tk} {rl : Value} {dep : Nat → Int} {wh : Bool}
theorem Ct.lg (h : Ct w c f L x xt t rl dep wh) : c.g < w.heap.size := Nat.lt_of_lt_of_le h.ap.g h.sz
theorem Ct.ll (h : Ct w c f L x xt t rl dep wh) : f.toks.length ≤ 733007751850 := by have := h.tl.len; omega
theorem Ct.il (h : Ct w c f L x xt t rl dep wh) : c.i < f.toks.length := (List.getElem?_eq_some_iff.1 h.ht).1
theorem Ct.xl (h : Ct w c f L x xt t rl dep wh) : x.at_ < f.toks.length := (List.getElem?_eq_some_iff.1 h.hx).1
/-- Where nothing is written but into maps and new memory. -/
theorem Ct.kept {E : List Nat} (h : Ct w c f L x xt t rl dep wh) (hb : Kb E w w') (hE : ∀ k ∈ E, k = c.m1 ∨ k = c.m2 ∨ k = c.m3) : Ct w' c f L x xt t rl dep wh := by
  have a := h.ap
  have nB : c.B ∉ E := fun e => (hE _ e).elim a.B1 fun e => e.elim a.B2 a.B3
  have no : c.go ∉ E := fun e => (hE _ e).elim a.o1 fun e => e.elim a.o2 a.o3
  have nf : c.gf ∉ E := fun e => (hE _ e).elim a.f1 fun e => e.elim a.f2 a.f3
  have nl : ∀ k, k < c.H → k ∉ E := fun k hk e => by have := a.m1; have := a.m2; have := a.m3; rcases hE _ e with e | e | e <;> omega
  exact ⟨h.ck.same hb.size (hb.block _ h.ck.lt nB), h.op.same (hb.block _ h.op.lt no), h.fm.same (hb.block _ h.fl nf), ⟨h.tl.row.same fun k hk => hb.block k (Nat.lt_of_lt_of_le hk h.sz) (nl k hk), h.tl.len, h.tl.ok⟩, h.hx, h.ht, h.ap, h.kt.same hb.size (hb.block _ (Nat.lt_of_lt_of_le h.k0 h.sz) (nl _ h.k0)), Nat.le_trans h.sz hb.size, Nat.lt_of_lt_of_le h.fl hb.size, h.k0, h.ln⟩
theorem Ct.below (h : Ct w c f L x xt t rl dep wh) (hb : Below w.heap.size w w') : Ct w' c f L x xt t rl dep wh := h.kept (E := []) (Kb.of_below hb) (fun _ e => absurd e List.not_mem_nil)
theorem Ct.tk (h : Ct w c f L x xt t rl dep wh) : ∃ pc cc, TkC w c.g (c.o + c.i * 21) t pc cc ∧ URow w pc c.H t.cst ∧ t.cst.length ≤ cc ∧ TkOk t := by
  obtain ⟨g, o, pc, cc, e, _, h1, h2, h3, h4⟩ := h.tl.at h.ht
  cases e
  exact ⟨pc, cc, h1, h2, h3, h4⟩
theorem Ct.xk (h : Ct w c f L x xt t rl dep wh) : ∃ pc cc, TkC w c.g (c.o + x.at_ * 21) xt pc cc ∧ TkOk xt := by
  obtain ⟨g, o, pc, cc, e, _, h1, _, _, h4⟩ := h.tl.at h.hx
  cases e
  exact ⟨pc, cc, h1, h4⟩
theorem Ct.sc (h : Ct w c f L x xt t rl dep wh) : ScC w c.g c.o c.go (L.length * 8) x := h.op.last
theorem OpR.frz {g o go cap : Nat} {l : List Sv} (h : OpR w g o go cap l) (j : Nat) : w.frozen? ⟨go, j, none⟩ = false := by
  obtain ⟨cur, h1, _⟩ := h.ex
  simp [World.frozen?, h1]
/-- A cell of the last written. -/
theorem Ct.wrote (h : Ct w c f L x xt t rl dep wh) {j : Nat} {v : Value} (hj : j < 8) (hx : svC c.g c.o x' = (svC c.g c.o x).set j v) (ha : x'.at_ = x.at_) : Ct (w.setCell ⟨c.go, L.length * 8 + j, none⟩ v) c f L x' xt t rl dep wh := by
  have hb : Kb [c.go] w (w.setCell ⟨c.go, L.length * 8 + j, none⟩ v) := (Kb.refl _ _).set (List.mem_singleton.2 rfl) v
  have a := h.ap
  have nl : ∀ k, k < c.H → k ∉ [c.go] := fun k hk e => by have := a.go; have := List.mem_singleton.1 e; omega
  exact ⟨h.ck.same hb.size (hb.block _ h.ck.lt (notin1 a.Bo)), h.op.set hj hx, h.fm.same (hb.block _ h.fl (notin1 a.fo)), ⟨h.tl.row.same fun k hk => hb.block k (Nat.lt_of_lt_of_le hk h.sz) (nl k hk), h.tl.len, h.tl.ok⟩, by rw [ha]; exact h.hx, h.ht, h.ap, h.kt.same hb.size (hb.block _ (Nat.lt_of_lt_of_le h.k0 h.sz) (nl _ h.k0)), Nat.le_trans h.sz hb.size, Nat.lt_of_lt_of_le h.fl hb.size, h.k0, h.ln⟩
end
end Go.Proofs.YtepnmfgbflogkaaDoor
namespace Go.Proofs.YtepnmfgbflogkaaDoor
open Go.ChangeShapes Go.WideShapes Go.ChangeAt Go.RowKit Go.Shelf Go.Maps

/-- The checker's cells, all of them. -/
def ckA (gf : Nat) (op : Value) (i : Int) (rl : Value) (m1 m2 m3 : Nat) (dep : Nat → Int) (wh : Bool) : Array Value := #[op, .pointer (some ⟨gf, 0, none⟩), .int .i64 i, rl, .int .i64 (dep 0), .int .i64 (dep 1), .int .i64 (dep 2), .int .i64 (dep 3), .int .i64 (dep 4), .int .i64 (dep 5), .int .i64 (dep 6), .int .i64 (dep 7), .int .i64 (dep 8), .int .i64 (dep 9), .int .i64 (dep 10), .int .i64 (dep 11), .int .i64 (dep 12), .int .i64 (dep 13), .int .i64 (dep 14), .int .i64 (dep 15), .map (some m1), .map (some m2), .map (some m3), .bool wh]
/-- The checker's block. -/
def CkH (w : World) (B gf : Nat) (op : Value) (i : Int) (rl : Value) (m1 m2 m3 : Nat) (dep : Nat → Int) (wh : Bool) : Prop := w.heap[B]? = some (.cells (ckA gf op i rl m1 m2 m3 dep wh) 104 (0, 0))
section
variable {w : World} {B gf : Nat} {op : Value} {i : Int} {rl : Value} {m1 m2 m3 : Nat} {dep : Nat → Int} {wh : Bool}
theorem CkH.lt (h : CkH w B gf op i rl m1 m2 m3 dep wh) : B < w.heap.size := (Array.getElem?_eq_some_iff.1 h).1
theorem CkH.cell (h : CkH w B gf op i rl m1 m2 m3 dep wh) (k : Nat) : w.cell? ⟨B, k, none⟩ = (ckA gf op i rl m1 m2 m3 dep wh)[k]? := cell_at h k
theorem CkH.ck (h : CkH w B gf op i rl m1 m2 m3 dep wh) : CkC w B gf op i rl m1 m2 m3 dep wh :=
  ⟨h.lt, h.cell 0, h.cell 1, h.cell 2, h.cell 3, fun q hq => by
    rw [h.cell]
    rcases (show q = 0 ∨ q = 1 ∨ q = 2 ∨ q = 3 ∨ q = 4 ∨ q = 5 ∨ q = 6 ∨ q = 7 ∨ q = 8 ∨ q = 9 ∨ q = 10 ∨ q = 11 ∨ q = 12 ∨ q = 13 ∨ q = 14 ∨ q = 15 by omega) with rfl | rfl | rfl | rfl | rfl | rfl | rfl | rfl | rfl | rfl | rfl | rfl | rfl | rfl | rfl | rfl <;> rfl, h.cell 20, h.cell 21, h.cell 22, h.cell 23⟩
theorem CkH.frz (h : CkH w B gf op i rl m1 m2 m3 dep wh) (k : Nat) : w.frozen? ⟨B, k, none⟩ = false := by
  unfold CkH at h
  simp [World.frozen?, h]
theorem CkH.same {w' : World} (h : CkH w B gf op i rl m1 m2 m3 dep wh) (hb : w'.heap[B]? = w.heap[B]?) : CkH w' B gf op i rl m1 m2 m3 dep wh := hb.trans h
theorem CkH.put (h : CkH w B gf op i rl m1 m2 m3 dep wh) (k : Nat) (v : Value) : (w.setCell ⟨B, k, none⟩ v).heap[B]? = some (.cells ((ckA gf op i rl m1 m2 m3 dep wh).setIfInBounds k v) 104 (0, 0)) := by
  show (w.heap.modify B _)[B]? = _
  unfold CkH at h
  rw [Array.getElem?_modify, if_pos rfl, h]
  rfl
theorem CkH.setOp (h : CkH w B gf op i rl m1 m2 m3 dep wh) (v : Value) : CkH (w.setCell ⟨B, 0, none⟩ v) B gf v i rl m1 m2 m3 dep wh := h.put 0 v
theorem CkH.setPlace (h : CkH w B gf op i rl m1 m2 m3 dep wh) (j : Int) : CkH (w.setCell ⟨B, 2, none⟩ (.int .i64 j)) B gf op j rl m1 m2 m3 dep wh := h.put 2 _
theorem CkH.setWh (h : CkH w B gf op i rl m1 m2 m3 dep wh) (b : Bool) : CkH (w.setCell ⟨B, 23, none⟩ (.bool b)) B gf op i rl m1 m2 m3 dep b := h.put 23 _
theorem CkH.setDep (h : CkH w B gf op i rl m1 m2 m3 dep wh) (q : Nat) (hq : q < 16) (v : Int) : CkH (w.setCell ⟨B, 4 + q, none⟩ (.int .i64 v)) B gf op i rl m1 m2 m3 (fun k => if k = q then v else dep k) wh := by
  have := h.put (4 + q) (.int .i64 v)
  unfold CkH
  rw [this]
  rcases (show q = 0 ∨ q = 1 ∨ q = 2 ∨ q = 3 ∨ q = 4 ∨ q = 5 ∨ q = 6 ∨ q = 7 ∨ q = 8 ∨ q = 9 ∨ q = 10 ∨ q = 11 ∨ q = 12 ∨ q = 13 ∨ q = 14 ∨ q = 15 by omega) with rfl | rfl | rfl | rfl | rfl | rfl | rfl | rfl | rfl | rfl | rfl | rfl | rfl | rfl | rfl | rfl <;> rfl
end
theorem set_oth {w : World} {b o B : Nat} {v : Value} (h : b ≠ B) : (w.setCell ⟨b, o, none⟩ v).heap[B]? = w.heap[B]? := by
  show (w.heap.modify b _)[B]? = _
  rw [Array.getElem?_modify, if_neg h]
theorem Kb.setNew {E : List Nat} {a b : World} (h : Kb E a b) {g o : Nat} (hg : a.heap.size ≤ g) (v : Value) : Kb E a (b.setCell ⟨g, o, none⟩ v) := by
  refine ⟨h.os, h.tape, h.output, ?_, fun k hk he => ?_⟩
  · show a.heap.size ≤ (b.heap.modify g _).size
    rw [Array.size_modify]; exact h.size
  · rw [set_oth (by omega)]
    exact h.block k hk he
/-- A scope as a value. -/
abbrev svV (g o : Nat) (x : Sv) : Value := .agg #[.pointer (some ⟨g, o + x.at_ * 21, none⟩), .int .i64 (x.at_ : Int), .int .i64 x.cnt, .int .i64 x.last, .int .i64 x.fld, .int .i64 x.row, .int .i64 x.en, .int .i64 x.cod]
set_option maxRecDepth 20000 in
set_option maxHeartbeats 4000000 in
theorem pop_any (B gf go n cap g o m1 m2 m3 : Nat) (i : Int) (rl : Value) (dep : Nat → Int) (wh : Bool) (x : Sv) (w : World) (hH : CkH w B gf (.slice (some ⟨go, 0, none⟩) (n + 1) cap) i rl m1 m2 m3 dep wh) (hX : ScC w g o go (n * 8) x) (hgo : go < w.heap.size) (hn : n < 1000000000000) (hcap : n + 1 ≤ cap) :
    Calls Tryd.prog 57 #[.pointer (some ⟨B, 0, none⟩)] w fun r w' => r = .returned (svV g o x) ∧ CkH w' B gf (.slice (some ⟨go, 0, none⟩) n cap) i rl m1 m2 m3 dep wh ∧ Kb [B] w w' := by
  have hBl := hH.lt
  have cT := fun W (hW : Below w.heap.size w W) => top_any B go n cap W ((hW.cell (p := ⟨B, 0, none⟩) hBl).trans (hH.cell 0)) hn
  have hY : ∀ W, Below w.heap.size w W → ScC W g o go (n * 8) x := fun W hW => hX.same (hW.block go hgo)
  go_enter Tryd.func57, Tryd.ntmps57
  go_wp2_with (go_at_call 59; refine (cT _ (bel1 _ _)).mono ?_; rintro _ w1 ⟨rfl, hb⟩; have hb1 : Below w.heap.size w w1 := (bel1 _ _).trans (hb.mono (al_le _ _)); obtain ⟨y0, y1, y2, y3, y4, y5, y6, y7⟩ := hY _ hb1)
  have b0 : w1.cell? ⟨B, 0, none⟩ = some (.slice (some ⟨go, 0, none⟩) (n + 1) cap) := (hb1.cell (p := ⟨B, 0, none⟩) hBl).trans (hH.cell 0)
  have e1 : ((n + 1 : Nat) : Int) - 1 = (n : Int) := by omega
  have hB1 : B < w1.heap.size := Nat.lt_of_lt_of_le hBl hb1.size
  clear y0 y1 y2 y3 y4 y5 y6 y7 hY cT
  have fz : w1.frozen? ⟨B, 0, none⟩ = false := (hH.same (hb1.block B hBl)).frz 0
  have hw0 : w.heap.size < w1.heap.size := Nat.lt_of_lt_of_le (szal _ _) hb.size
  have hBw : B ≠ w.heap.size := by omega
  have hBw1 : B ≠ w1.heap.size := by omega
  go_region
  have hz1 : w1.heap[w.heap.size]? = some (.cells #[.pointer none, .int .i64 0, .int .i64 0, .int .i64 0, .int .i64 0, .int .i64 0, .int .i64 0, .int .i64 0] 117) := (hb.block _ (by rw [World.size_alloc]; omega)).trans (heap_al _ _)
  have hs1 : (w1.setCell ⟨B, 0, none⟩ (.slice (some ⟨go, 0, none⟩) n cap)).heap.size = w1.heap.size := by show (w1.heap.modify B _).size = _; rw [Array.size_modify]
  have k1 : Kb [B] w (w1.setCell ⟨B, 0, none⟩ (.slice (some ⟨go, 0, none⟩) n cap)) := (Kb.of_below hb1).set (List.mem_singleton.2 rfl) _
  have k3 : Kb [B] w (((w1.setCell ⟨B, 0, none⟩ (.slice (some ⟨go, 0, none⟩) n cap)).alloc (.cells #[.pointer (some ⟨g, o + x.at_ * 21, none⟩), .int .i64 (x.at_ : Int), .int .i64 x.cnt, .int .i64 x.last, .int .i64 x.fld, .int .i64 x.row, .int .i64 x.en, .int .i64 x.cod] 117)).drew) := (k1.alloc _).drew
  have c3 : CkH (((w1.setCell ⟨B, 0, none⟩ (.slice (some ⟨go, 0, none⟩) n cap)).alloc (.cells #[.pointer (some ⟨g, o + x.at_ * 21, none⟩), .int .i64 (x.at_ : Int), .int .i64 x.cnt, .int .i64 x.last, .int .i64 x.fld, .int .i64 x.row, .int .i64 x.en, .int .i64 x.cod] 117)).drew) B gf (.slice (some ⟨go, 0, none⟩) n cap) i rl m1 m2 m3 dep wh := ((hH.same (hb1.block B hBl)).setOp _).same ((bel1 _ _).block B (by rw [hs1]; exact hB1))
  have l3 : (((w1.setCell ⟨B, 0, none⟩ (.slice (some ⟨go, 0, none⟩) n cap)).alloc (.cells #[.pointer (some ⟨g, o + x.at_ * 21, none⟩), .int .i64 (x.at_ : Int), .int .i64 x.cnt, .int .i64 x.last, .int .i64 x.fld, .int .i64 x.row, .int .i64 x.en, .int .i64 x.cod] 117)).drew).heap[w1.heap.size]? = some (.cells #[.pointer (some ⟨g, o + x.at_ * 21, none⟩), .int .i64 (x.at_ : Int), .int .i64 x.cnt, .int .i64 x.last, .int .i64 x.fld, .int .i64 x.row, .int .i64 x.en, .int .i64 x.cod] 117) := by
    rw [← hs1]
    exact heap_al _ _
  have z3 : (((w1.setCell ⟨B, 0, none⟩ (.slice (some ⟨go, 0, none⟩) n cap)).alloc (.cells #[.pointer (some ⟨g, o + x.at_ * 21, none⟩), .int .i64 (x.at_ : Int), .int .i64 x.cnt, .int .i64 x.last, .int .i64 x.fld, .int .i64 x.row, .int .i64 x.en, .int .i64 x.cod] 117)).drew).heap[w.heap.size]? = some (.cells #[.pointer none, .int .i64 0, .int .i64 0, .int .i64 0, .int .i64 0, .int .i64 0, .int .i64 0, .int .i64 0] 117) := by
    refine ((bel1 _ _).block w.heap.size (by rw [hs1]; exact hw0)).trans ?_
    show (w1.heap.modify B _)[w.heap.size]? = _
    rw [Array.getElem?_modify, if_neg hBw]
    exact hz1
  generalize (((w1.setCell ⟨B, 0, none⟩ (.slice (some ⟨go, 0, none⟩) n cap)).alloc (.cells #[.pointer (some ⟨g, o + x.at_ * 21, none⟩), .int .i64 (x.at_ : Int), .int .i64 x.cnt, .int .i64 x.last, .int .i64 x.fld, .int .i64 x.row, .int .i64 x.en, .int .i64 x.cod] 117)).drew) = W3 at k3 c3 l3 z3 ⊢
  have l_0 : W3.cell? ⟨w1.heap.size, 0, none⟩ = some (.pointer (some ⟨g, o + x.at_ * 21, none⟩)) := cell_at l3 0
  have z_0 : W3.cell? ⟨w.heap.size, 0, none⟩ = some (.pointer none) := cell_at z3 0
  have f_0 : W3.frozen? ⟨w.heap.size, 0, none⟩ = false := by simp [World.frozen?, z3]
  have l_1 : W3.cell? ⟨w1.heap.size, 1, none⟩ = some (.int .i64 (x.at_ : Int)) := cell_at l3 1
  have z_1 : W3.cell? ⟨w.heap.size, 1, none⟩ = some (.int .i64 0) := cell_at z3 1
  have f_1 : W3.frozen? ⟨w.heap.size, 1, none⟩ = false := by simp [World.frozen?, z3]
  have l_2 : W3.cell? ⟨w1.heap.size, 2, none⟩ = some (.int .i64 x.cnt) := cell_at l3 2
  have z_2 : W3.cell? ⟨w.heap.size, 2, none⟩ = some (.int .i64 0) := cell_at z3 2
  have f_2 : W3.frozen? ⟨w.heap.size, 2, none⟩ = false := by simp [World.frozen?, z3]
  have l_3 : W3.cell? ⟨w1.heap.size, 3, none⟩ = some (.int .i64 x.last) := cell_at l3 3
  have z_3 : W3.cell? ⟨w.heap.size, 3, none⟩ = some (.int .i64 0) := cell_at z3 3
  have f_3 : W3.frozen? ⟨w.heap.size, 3, none⟩ = false := by simp [World.frozen?, z3]
  have l_4 : W3.cell? ⟨w1.heap.size, 4, none⟩ = some (.int .i64 x.fld) := cell_at l3 4
  have z_4 : W3.cell? ⟨w.heap.size, 4, none⟩ = some (.int .i64 0) := cell_at z3 4
  have f_4 : W3.frozen? ⟨w.heap.size, 4, none⟩ = false := by simp [World.frozen?, z3]
  have l_5 : W3.cell? ⟨w1.heap.size, 5, none⟩ = some (.int .i64 x.row) := cell_at l3 5
  have z_5 : W3.cell? ⟨w.heap.size, 5, none⟩ = some (.int .i64 0) := cell_at z3 5
  have f_5 : W3.frozen? ⟨w.heap.size, 5, none⟩ = false := by simp [World.frozen?, z3]
  have l_6 : W3.cell? ⟨w1.heap.size, 6, none⟩ = some (.int .i64 x.en) := cell_at l3 6
  have z_6 : W3.cell? ⟨w.heap.size, 6, none⟩ = some (.int .i64 0) := cell_at z3 6
  have f_6 : W3.frozen? ⟨w.heap.size, 6, none⟩ = false := by simp [World.frozen?, z3]
  have l_7 : W3.cell? ⟨w1.heap.size, 7, none⟩ = some (.int .i64 x.cod) := cell_at l3 7
  have z_7 : W3.cell? ⟨w.heap.size, 7, none⟩ = some (.int .i64 0) := cell_at z3 7
  have f_7 : W3.frozen? ⟨w.heap.size, 7, none⟩ = false := by simp [World.frozen?, z3]
  replace k3 := Hid.mk k3
  replace c3 := Hid.mk c3
  clear b0 fz hb hb1 hH hX
  go_wp2_with fail
  refine bodyPost_ret (v := svV g o x) ?_ rfl ⟨rfl, ?_, ?_⟩
  · simp [results, Tryd.results57, go_sem, z_0, z_1, z_2, z_3, z_4, z_5, z_6, z_7]
  · exact (((((((((c3.out.same (set_oth hBw.symm)).same (set_oth hBw.symm)).same (set_oth hBw.symm)).same (set_oth hBw.symm)).same (set_oth hBw.symm)).same (set_oth hBw.symm)).same (set_oth hBw.symm)).same (set_oth hBw.symm)))
  · exact (((((((k3.out.setNew (Nat.le_refl _) _).setNew (Nat.le_refl _) _).setNew (Nat.le_refl _) _).setNew (Nat.le_refl _) _).setNew (Nat.le_refl _) _).setNew (Nat.le_refl _) _).setNew (Nat.le_refl _) _).setNew (Nat.le_refl _) _
end Go.Proofs.YtepnmfgbflogkaaDoor
namespace Go.Proofs.YtepnmfgbflogkaaDoor
open Go.ChangeShapes Go.WideShapes Go.ChangeAt Go.RowKit

/-- A call at a step of a region that draws its order. -/
theorem xstep_ex {P : Program} {w : World} {ops : Array Oper} {o : Oper} {a : Act} {K : Act → World → Prop} {Q : Exit → Act → World → Prop} {E : Prop} (hgd : o.guard = none) (f : FuncId) (x : Array Operand) (tx : Array TypeId)
    (ho : o.op = .call { callee := .value (.func f), args := x, argTypes := tx }) (hen : ∀ ag w, (callFunc f ag).run P w = .ok (.enter f ag) w) (xv : Array Value) (hx : x.map a.eval = xv) (Post : Value → World → Prop)
    (hc : Calls P f xv w fun e w' => ∃ v, e = .returned v ∧ Post v w') (h : ∀ v w', Post v w' → K (a.put o.dst v) w') : if Region.wanted o (yielded ops a.tmps) = true then Oper.wp P o a w K Q else E := by
  have hw : Region.wanted o (yielded ops a.tmps) = true := by simp [Region.wanted, hgd]
  rw [if_pos hw]
  unfold Oper.wp execOp
  have hf : a.eval (.func f) = .func (.func f) #[] #[] := rfl
  simp only [ho, resolve, invoke, Sem.run_bind, hx, hf]
  simp [Deferred.ofValue, hen, Oper.upon_enter]
  refine hc.mono ?_
  rintro e w' ⟨v, rfl, hp⟩
  exact h v w' hp
/-- The same with one argument; with two. -/
theorem xstep1 {P : Program} {w : World} {ops : Array Oper} {o : Oper} {a : Act} {K : Act → World → Prop} {Q : Exit → Act → World → Prop} {E : Prop} (hgd : o.guard = none) (f : FuncId) (x : Operand) (tx : Array TypeId)
    (ho : o.op = .call { callee := .value (.func f), args := #[x], argTypes := tx }) (hen : ∀ ag w, (callFunc f ag).run P w = .ok (.enter f ag) w) (xv : Value) (hx : a.eval x = xv) (Post : Value → World → Prop)
    (hc : Calls P f #[xv] w fun e w' => ∃ v, e = .returned v ∧ Post v w') (h : ∀ v w', Post v w' → K (a.put o.dst v) w') : if Region.wanted o (yielded ops a.tmps) = true then Oper.wp P o a w K Q else E :=
  xstep_ex hgd f #[x] tx ho hen #[xv] (by simp [hx]) Post hc h
theorem xstep2 {P : Program} {w : World} {ops : Array Oper} {o : Oper} {a : Act} {K : Act → World → Prop} {Q : Exit → Act → World → Prop} {E : Prop} (hgd : o.guard = none) (f : FuncId) (x y : Operand) (tx : Array TypeId)
    (ho : o.op = .call { callee := .value (.func f), args := #[x, y], argTypes := tx }) (hen : ∀ ag w, (callFunc f ag).run P w = .ok (.enter f ag) w) (xv yv : Value) (hx : a.eval x = xv) (hy : a.eval y = yv) (Post : Value → World → Prop)
    (hc : Calls P f #[xv, yv] w fun e w' => ∃ v, e = .returned v ∧ Post v w') (h : ∀ v w', Post v w' → K (a.put o.dst v) w') : if Region.wanted o (yielded ops a.tmps) = true then Oper.wp P o a w K Q else E :=
  xstep_ex hgd f #[x, y] tx ho hen #[xv, yv] (by simp [hx, hy]) Post hc h
theorem wpList_append_ex {P : Program} {w : World} {ops : Array Oper} {rest : List Oper} {o : Oper} {a : Act} {Q : Exit → Act → World → Prop} (hgd : o.guard = none) (s x : Operand) (t tx : TypeId)
    (ho : o.op = .call { callee := .builtin .append, args := #[s, x], argTypes := #[t, tx] }) (sv xv : Value) (hs : a.eval s = sv) (hx : a.eval x = xv) (Post : Value → World → Prop)
    (hrun : ∃ v w', (∀ ty, (Builtin.append_ #[t, tx] ty #[sv, xv]).run P w = .ok v w') ∧ Post v w')
    (h : ∀ v w', Post v w' → wpList P ops Q rest (a.put o.dst v) w') : wpList P ops Q (o :: rest) a w := by
  obtain ⟨v, w', hr, hp⟩ := hrun
  refine wpList_plain hgd fun _ hK => ?_
  unfold Oper.wp execOp
  simp only [ho, resolve, invoke, builtin, Sem.run_bind, Sem.run_pure, Result.andThen_ok, List.map_toArray, List.map_cons, List.map_nil, hs, hx, hr]
  exact hK _ _ (h v w' hp)
theorem step_append_ex {P : Program} {w : World} {ops : Array Oper} {o : Oper} {a : Act} {K : Act → World → Prop} {Q : Exit → Act → World → Prop} {E : Prop} (hgd : o.guard = none) (s x : Operand) (t tx : TypeId)
    (ho : o.op = .call { callee := .builtin .append, args := #[s, x], argTypes := #[t, tx] }) (sv xv : Value) (hs : a.eval s = sv) (hx : a.eval x = xv) (Post : Value → World → Prop)
    (hrun : ∃ v w', (∀ ty, (Builtin.append_ #[t, tx] ty #[sv, xv]).run P w = .ok v w') ∧ Post v w')
    (h : ∀ v w', Post v w' → K (a.put o.dst v) w') : if Region.wanted o (yielded ops a.tmps) = true then Oper.wp P o a w K Q else E := by
  have hw : Region.wanted o (yielded ops a.tmps) = true := by simp [Region.wanted, hgd]
  rw [if_pos hw]
  obtain ⟨v, w', hr, hp⟩ := hrun
  unfold Oper.wp execOp
  simp only [ho, resolve, invoke, builtin, Sem.run_bind, Sem.run_pure, Result.andThen_ok, List.map_toArray, List.map_cons, List.map_nil, hs, hx, hr]
  exact h v w' hp
end Go.Proofs.YtepnmfgbflogkaaDoor

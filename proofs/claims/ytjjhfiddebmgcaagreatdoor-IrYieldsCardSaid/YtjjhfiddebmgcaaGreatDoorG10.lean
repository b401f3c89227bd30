/- IRa, IOp, ICt, IRb. -/
import Derived.Test.YtjjhfiddebmgcaaGreatDoorG08
import Derived.Test.YtjjhfiddebmgcaaGreatDoorIHd
import Derived.Test.YtjjhfiddebmgcaaGreatDoorG05
namespace Go.Proofs.YtjjhfiddebmgcaaGreatDoor
open Go.ChangeShapes Go.WideShapes Go.ChangeAt Go.RowKit Go.Shelf Go.Maps

theorem ent_top : ∀ ag w, (callFunc 76 ag).run Tryz.prog w = .ok (.enter 76 ag) w := enters_of Tryz.func76 (by kernel_rfl) rfl
theorem ent_isNewI : ∀ ag w, (callFunc 102 ag).run Tryz.prog w = .ok (.enter 102 ag) w := enters_of Tryz.func102 (by kernel_rfl) rfl
theorem ent_isNewN : ∀ ag w, (callFunc 103 ag).run Tryz.prog w = .ok (.enter 103 ag) w := enters_of Tryz.func103 (by kernel_rfl) rfl
theorem ent_isNewV : ∀ ag w, (callFunc 92 ag).run Tryz.prog w = .ok (.enter 92 ag) w := enters_of Tryz.func92 (by kernel_rfl) rfl
theorem ent_isNewName : ∀ ag w, (callFunc 91 ag).run Tryz.prog w = .ok (.enter 91 ag) w := enters_of Tryz.func91 (by kernel_rfl) rfl
theorem ent_isNewPart : ∀ ag w, (callFunc 83 ag).run Tryz.prog w = .ok (.enter 83 ag) w := enters_of Tryz.func83 (by kernel_rfl) rfl
theorem notin1 {a b : Nat} (h : a ≠ b) : a ∉ [b] := fun e => h (List.mem_singleton.1 e)
/-- The key of a name in what begins at a place. -/
abbrev nmK (a : Nat) (s : ByteArray) : Value := .agg #[.int .i64 (a : Int), .string s]
set_option maxRecDepth 20000 in
theorem isNewName_any (B gf go n cap g o gt ot m1 m2 m3 nn : Nat) (i : Int) (rl : Value) (dep : Nat → Int) (wh : Bool) (t : Tk) (x : Sv) (pc : Option Addr) (cc : Nat) (hs : Value → Prop) (b : Bool) (w : World)
    (hC : CkC w B gf (.slice (some ⟨go, 0, none⟩) (n + 1) cap) i rl m1 m2 m3 dep wh) (hX : ScC w g o go (n * 8) x) (hgo : go < w.heap.size) (hT : TkC w gt ot t pc cc) (hgt : gt < w.heap.size) (hM : MHas w 124 m2 nn hs)
    (nB : B ≠ m2) (nG : go ≠ m2) (nT : gt ≠ m2) (hn : n < 1000000000000) (hnn : nn < 17592186044416) (hx : (x.at_ : Int) ≤ 9223372036854775807) (hl : t.name.size ≤ 281474976710656) (hi : i64ok i) (hb : b = true ↔ ¬ hs (nmK x.at_ t.name)) :
    Calls Tryz.prog 91 #[.pointer (some ⟨B, 0, none⟩), .pointer (some ⟨gt, ot, none⟩)] w fun r w' => r = .returned (.bool b) ∧ MHas w' 124 m2 (nn + 1) (fun v => v = nmK x.at_ t.name ∨ hs v) ∧ Kb [m2] w w' := by
  obtain ⟨p, pB, pK, hN, f0, f1, f2, f3⟩ : ∃ p : World → Prop, (∀ W, p W → Kb [m2] w W) ∧
      (∀ W, Kb [m2] w W → p W) ∧
      Nonempty (CW p) ∧
      (∀ θ : CW p, θ.w.cell? ⟨B, 21, none⟩ = some (.map (some m2))) ∧
      (∀ θ : CW p, θ.w.cell? ⟨B, 2, none⟩ = some (.int .i64 i)) ∧
      (∀ θ : CW p, θ.w.cell? ⟨go, n * 8 + 1, none⟩ = some (.int .i64 (x.at_ : Int))) ∧
      (∀ θ : CW p, θ.w.cell? ⟨gt, ot + 1, none⟩ = some (.string t.name)) :=
    ⟨Kb [m2] w,
      fun _ h => h,
      fun _ h => h,
      ⟨⟨_, Kb.refl _ _⟩⟩,
      fun θ => (θ.h.cell hC.lt (notin1 nB)).trans hC.c21,
      fun θ => (θ.h.cell hC.lt (notin1 nB)).trans hC.c2,
      fun θ => (θ.h.cell hgo (notin1 nG)).trans hX.c1,
      fun θ => (θ.h.cell hgt (notin1 nT)).trans hT.c1⟩
  have hml := hM.lt
  go_enter Tryz.func91, Tryz.ntmps91
  go_wp2_with fail
  refine wp_region_pp p [0, 1, 2, 3, 4, 5, 6, 11, 12, 13, 14, 16, 17, 18, 19, 7, 8, 9, 10, 15, 20, 21] (by kernel_rfl) (by kernel_rfl) (fun _ _ d _ _ h => by cases d <;> exact h) (pK _ (Kb.refl _ _).drew) ?_
  simp only [List.filterMap_cons, List.filterMap_nil, List.getElem?_cons_zero, List.getElem?_cons_succ]
  repeat (refine lx_one rfl ?_; (first | go_big_quiet_skip | (go_big_quiet_want; go_big_quiet_op; go_big_quiet_on)); refine wpQuiet_nil ?_)
  refine lx_call1 ent_top (top_any B go n cap _ hC.c0 hn) rfl (by rfl) ?_
  intro W1 hb1
  have k1 : Kb [m2] w W1 := (Kb.refl _ _).drew.trans (Kb.of_below hb1)
  refine ⟨⟨⟨_, pK _ k1⟩, rfl⟩, ?_⟩
  simp only [pts]
  repeat (refine lx_one rfl ?_; (first | go_big_quiet_skip | (go_big_quiet_want; go_big_quiet_op; go_big_quiet_on)); refine wpQuiet_nil ?_)
  refine lx_call3 ent_isNewN (isNewN_any m2 nn x.at_ i t.name hs b W1 (hM.same (hb1.block m2 hml)) hnn ⟨by omega, hx⟩ (by unfold maxLen; omega) hi hb) rfl rfl rfl (by rfl) ?_
  rintro W2 ⟨hM2, hg2⟩
  have k2 : Kb [m2] w W2 := k1.trans (Kb.of_grown hg2 (List.mem_singleton.2 rfl))
  refine ⟨⟨⟨_, pK _ k2⟩, rfl⟩, ?_⟩
  simp only [pts]
  repeat (refine lx_one rfl ?_; (first | go_big_quiet_skip | (go_big_quiet_want; go_big_quiet_op; go_big_quiet_on)); refine wpQuiet_nil ?_)
  refine lx_done ?_
  go_wp2_with fail
  go_ret
  exact ⟨rfl, hM2, k2⟩
theorem notin2 {a b c : Nat} (h : a ≠ b) (h' : a ≠ c) : a ∉ [b, c] := fun e => by simp at e; omega
set_option maxRecDepth 20000 in
set_option maxHeartbeats 1000000 in
theorem isNewPart_any (B gf go n cap g o gt ot m1 m2 m3 n1 nn : Nat) (i : Int) (rl : Value) (dep : Nat → Int) (wh : Bool) (t : Tk) (x : Sv) (pc : Option Addr) (cc : Nat) (h1 hs : Value → Prop) (b1 b : Bool) (w : World)
    (hC : CkC w B gf (.slice (some ⟨go, 0, none⟩) (n + 1) cap) i rl m1 m2 m3 dep wh) (hX : ScC w g o go (n * 8) x) (hgo : go < w.heap.size) (hT : TkC w gt ot t pc cc) (hgt : gt < w.heap.size) (hM1 : MHas w 3 m1 n1 h1) (hM : MHas w 124 m2 nn hs)
    (nB : B ≠ m2) (nG : go ≠ m2) (nT : gt ≠ m2) (nB1 : B ≠ m1) (nG1 : go ≠ m1) (nT1 : gt ≠ m1) (n12 : m1 ≠ m2) (hn : n < 1000000000000) (hn1 : n1 < 17592186044416) (hnn : nn < 17592186044416) (hx : (x.at_ : Int) ≤ 9223372036854775807) (hk : TkOk t) (hi : i64ok i) (hb1 : b1 = true ↔ ¬ h1 (.int .i64 t.id)) (hb : b = true ↔ ¬ hs (nmK x.at_ t.name)) :
    Calls Tryz.prog 83 #[.pointer (some ⟨B, 0, none⟩), .pointer (some ⟨gt, ot, none⟩)] w fun r w' => r = .returned (.bool (bet t.id 0 65535 && b1 && b)) ∧ Kb [m1, m2] w w' ∧ ((bet t.id 0 65535 && b1 && b) = true → MHas w' 3 m1 (n1 + 1) (fun v => v = .int .i64 t.id ∨ h1 v) ∧ MHas w' 124 m2 (nn + 1) (fun v => v = nmK x.at_ t.name ∨ hs v)) := by
  obtain ⟨p, pB, pK, hN, f0, f1, f2, cN⟩ : ∃ p : World → Prop, (∀ W, p W → Kb [m1, m2] w W) ∧
      (∀ W, Kb [m1, m2] w W → p W) ∧
      Nonempty (CW p) ∧
      (∀ θ : CW p, θ.w.cell? ⟨B, 20, none⟩ = some (.map (some m1))) ∧
      (∀ θ : CW p, θ.w.cell? ⟨B, 2, none⟩ = some (.int .i64 i)) ∧
      (∀ θ : CW p, θ.w.cell? ⟨gt, ot + 2, none⟩ = some (.int .i64 t.id)) ∧
      (∀ W, p W → Calls Tryz.prog 58 #[.int .i64 t.id, .int .i64 0, .int .i64 65535] W fun e w' => e = .returned (.bool (bet t.id 0 65535)) ∧ w' = W) :=
    ⟨Kb [m1, m2] w,
      fun _ h => h,
      fun _ h => h,
      ⟨⟨_, Kb.refl _ _⟩⟩,
      fun θ => (θ.h.cell hC.lt (notin2 nB1 nB)).trans hC.c20,
      fun θ => (θ.h.cell hC.lt (notin2 nB1 nB)).trans hC.c2,
      fun θ => (θ.h.cell hgt (notin2 nT1 nT)).trans hT.c2,
      fun W _ => isBetween_any _ _ _ W⟩
  have cI := isNewI_any m1 n1 t.id i h1 b1 w.drew hM1 hn1 hk.id hi hb1
  clear hb1
  replace hb : Hid (b = true ↔ ¬ hs (nmK x.at_ t.name)) := ⟨hb⟩
  rcases ch2 (bet t.id 0 65535) b1 with e0 | ⟨e0, e1⟩ | ⟨e0, e1⟩
  · rw [e0] at cN ⊢
    go_enter Tryz.func83, Tryz.ntmps83
    go_wp2_with fail
    refine wp_region_lx p (by kernel_rfl) (by kernel_rfl) (fun _ _ d _ _ h => by cases d <;> exact h) (pK _ (Kb.refl _ _).drew) ?_
    repeat (first | (refine lx_one rfl ?_; (first | go_big_quiet_skip | (go_big_quiet_want; go_big_quiet_op; go_big_quiet_on)); refine wpQuiet_nil ?_) | (refine lx_skip (by rfl) ?_; simp only [pts]))
    refine lx_call3 ent_isBetween (cN _ (pK _ (Kb.refl _ _).drew)) rfl rfl rfl (by rfl) ?_
    rintro _ rfl
    refine ⟨⟨⟨_, pK _ (Kb.refl _ _).drew⟩, rfl⟩, ?_⟩
    simp only [pts]
    repeat (first | (refine lx_one rfl ?_; (first | go_big_quiet_skip | (go_big_quiet_want; go_big_quiet_op; go_big_quiet_on)); refine wpQuiet_nil ?_) | (refine lx_skip (by rfl) ?_; simp only [pts]))
    refine lx_done ?_
    go_wp2_with fail
    go_ret
    exact ⟨rfl, (Kb.refl _ _).drew, fun h => by cases h⟩
  · rw [e0] at cN ⊢
    rw [e1] at cI ⊢
    go_enter Tryz.func83, Tryz.ntmps83
    go_wp2_with fail
    refine wp_region_lx p (by kernel_rfl) (by kernel_rfl) (fun _ _ d _ _ h => by cases d <;> exact h) (pK _ (Kb.refl _ _).drew) ?_
    repeat (first | (refine lx_one rfl ?_; (first | go_big_quiet_skip | (go_big_quiet_want; go_big_quiet_op; go_big_quiet_on)); refine wpQuiet_nil ?_) | (refine lx_skip (by rfl) ?_; simp only [pts]))
    refine lx_call3 ent_isBetween (cN _ (pK _ (Kb.refl _ _).drew)) rfl rfl rfl (by rfl) ?_
    rintro _ rfl
    refine ⟨⟨⟨_, pK _ (Kb.refl _ _).drew⟩, rfl⟩, ?_⟩
    simp only [pts]
    repeat (first | (refine lx_one rfl ?_; (first | go_big_quiet_skip | (go_big_quiet_want; go_big_quiet_op; go_big_quiet_on)); refine wpQuiet_nil ?_) | (refine lx_skip (by rfl) ?_; simp only [pts]))
    refine lx_call3 ent_isNewI cI rfl rfl rfl (by rfl) ?_
    rintro W1 ⟨hA, hg1⟩
    have k1 : Kb [m1, m2] w W1 := (Kb.refl _ _).drew.trans (Kb.of_grown hg1 (by simp))
    refine ⟨⟨⟨_, pK _ k1⟩, rfl⟩, ?_⟩
    simp only [pts]
    repeat (first | (refine lx_one rfl ?_; (first | go_big_quiet_skip | (go_big_quiet_want; go_big_quiet_op; go_big_quiet_on)); refine wpQuiet_nil ?_) | (refine lx_skip (by rfl) ?_; simp only [pts]))
    refine lx_done ?_
    go_wp2_with fail
    go_ret
    exact ⟨rfl, k1, fun h => by cases h⟩
  · rw [e0] at cN ⊢
    rw [e1] at cI ⊢
    go_enter Tryz.func83, Tryz.ntmps83
    go_wp2_with fail
    refine wp_region_lx p (by kernel_rfl) (by kernel_rfl) (fun _ _ d _ _ h => by cases d <;> exact h) (pK _ (Kb.refl _ _).drew) ?_
    repeat (first | (refine lx_one rfl ?_; (first | go_big_quiet_skip | (go_big_quiet_want; go_big_quiet_op; go_big_quiet_on)); refine wpQuiet_nil ?_) | (refine lx_skip (by rfl) ?_; simp only [pts]))
    refine lx_call3 ent_isBetween (cN _ (pK _ (Kb.refl _ _).drew)) rfl rfl rfl (by rfl) ?_
    rintro _ rfl
    refine ⟨⟨⟨_, pK _ (Kb.refl _ _).drew⟩, rfl⟩, ?_⟩
    simp only [pts]
    repeat (first | (refine lx_one rfl ?_; (first | go_big_quiet_skip | (go_big_quiet_want; go_big_quiet_op; go_big_quiet_on)); refine wpQuiet_nil ?_) | (refine lx_skip (by rfl) ?_; simp only [pts]))
    refine lx_call3 ent_isNewI cI rfl rfl rfl (by rfl) ?_
    rintro W1 ⟨hA, hg1⟩
    have k1 : Kb [m1, m2] w W1 := (Kb.refl _ _).drew.trans (Kb.of_grown hg1 (by simp))
    refine ⟨⟨⟨_, pK _ k1⟩, rfl⟩, ?_⟩
    simp only [pts]
    repeat (first | (refine lx_one rfl ?_; (first | go_big_quiet_skip | (go_big_quiet_want; go_big_quiet_op; go_big_quiet_on)); refine wpQuiet_nil ?_) | (refine lx_skip (by rfl) ?_; simp only [pts]))
    have q : ∀ k, k < w.heap.size → k ≠ m1 → W1.heap[k]? = w.heap[k]? := fun k hk hne => hg1.block k hk (by simpa using hne)
    refine lx_call2 ent_isNewName (isNewName_any B gf go n cap g o gt ot m1 m2 m3 nn i rl dep wh t x pc cc hs b W1 (hC.same hg1.size (q B hC.lt nB1)) (hX.same (q go hgo nG1)) (Nat.lt_of_lt_of_le hgo hg1.size) (hT.same (q gt hgt nT1)) (Nat.lt_of_lt_of_le hgt hg1.size) (hM.same (q m2 hM.lt (Ne.symm n12))) nB nG nT hn hnn hx hk.name hi hb.out) rfl rfl (by rfl) ?_
    rintro W2 ⟨hE, hk2⟩
    have k2 : Kb [m1, m2] w W2 := k1.trans (hk2.mono (by simp))
    have hA2 := hA.same (hk2.block m1 hA.lt (notin1 n12))
    refine ⟨⟨⟨_, pK _ k2⟩, rfl⟩, ?_⟩
    simp only [pts]
    repeat (first | (refine lx_one rfl ?_; (first | go_big_quiet_skip | (go_big_quiet_want; go_big_quiet_op; go_big_quiet_on)); refine wpQuiet_nil ?_) | (refine lx_skip (by rfl) ?_; simp only [pts]))
    refine lx_done ?_
    go_wp2_with fail
    go_ret
    exact ⟨rfl, k2, fun _ => ⟨hA2, hE⟩⟩
end Go.Proofs.YtjjhfiddebmgcaaGreatDoor
namespace Go.Proofs.YtjjhfiddebmgcaaGreatDoor
open Go.ChangeShapes Go.WideShapes Go.ChangeAt Go.RowKit Go.Shelf

theorem op_cases (op : Int) : (op < 0 ∨ 15 < op) ∨ op = 0 ∨ op = 1 ∨ op = 2 ∨ op = 3 ∨ op = 4 ∨ op = 5 ∨ op = 6 ∨ op = 7 ∨ op = 8 ∨ op = 9 ∨ op = 10 ∨ op = 11 ∨ op = 12 ∨ op = 13 ∨ op = 14 ∨ op = 15 := by omega
theorem endOf_any (op : Int) (w : World) (h : -100 ≤ op ∧ op ≤ 100) : Calls Tryz.prog 94 #[.int .i64 op] w fun r w' => r = .returned (.int .i64 (op + 1)) ∧ w' = w := by
  have hw : IntKind.i64.wrap (op + 1) = op + 1 := by rw [IntKind.wrap_i64]; omega
  go_enter Tryz.func94, Tryz.ntmps94
  go_wp2_with fail
  go_ret
  exact ⟨rfl, rfl⟩
theorem begins_any (op : Int) (w : World) (h : 0 ≤ op ∧ op ≤ 15) : Calls Tryz.prog 77 #[.int .i64 op] w fun r w' => r = .returned (.bool (bgO op)) ∧ w' = w := by
  rcases op_cases op with h' | rfl | rfl | rfl | rfl | rfl | rfl | rfl | rfl | rfl | rfl | rfl | rfl | rfl | rfl | rfl | rfl
  · omega
  all_goals
    go_enter Tryz.func77, Tryz.ntmps77
    go_wp2_with fail
    go_ret
    exact ⟨rfl, rfl⟩
theorem ends_any (op : Int) (w : World) (h : 0 ≤ op ∧ op ≤ 15) : Calls Tryz.prog 73 #[.int .i64 op] w fun r w' => r = .returned (.bool (edO op)) ∧ w' = w := by
  rcases op_cases op with h' | rfl | rfl | rfl | rfl | rfl | rfl | rfl | rfl | rfl | rfl | rfl | rfl | rfl | rfl | rfl | rfl
  · omega
  all_goals
    go_enter Tryz.func73, Tryz.ntmps73
    go_wp2_with fail
    go_ret
    exact ⟨rfl, rfl⟩
theorem beqN {a b : Int} (h : a ≠ b) : (a == b) = false := beq_eq_false_iff_ne.2 h
theorem beqD (a b : Int) : (a == b) = decide (a = b) := by rw [Bool.eq_iff_iff]; simp
theorem isPart_any (op : Int) (w : World) : Calls Tryz.prog 95 #[.int .i64 op] w fun r w' => r = .returned (.bool (ptO op)) ∧ w' = w := by
  unfold ptO
  by_cases h2 : op = 2
  · subst h2
    go_enter Tryz.func95, Tryz.ntmps95
    go_wp2_with fail
    go_ret
    exact ⟨rfl, rfl⟩
  have d2 := beqN h2
  by_cases h4 : op = 4
  · subst h4
    go_enter Tryz.func95, Tryz.ntmps95
    go_wp2_with fail
    go_ret
    exact ⟨rfl, rfl⟩
  have d4 := beqN h4
  go_enter Tryz.func95, Tryz.ntmps95
  go_wp2_with fail
  go_ret
  exact ⟨rb (by rw [Bool.eq_iff_iff]; simp [h2, h4]), rfl⟩
theorem isType_any (op : Int) (w : World) : Calls Tryz.prog 96 #[.int .i64 op] w fun r w' => r = .returned (.bool (tyO op)) ∧ w' = w := by
  unfold tyO
  by_cases h14 : op = 14
  · subst h14
    go_enter Tryz.func96, Tryz.ntmps96
    go_wp2_with fail
    go_ret
    exact ⟨rfl, rfl⟩
  have d14 := beqN h14
  by_cases h10 : op = 10
  · subst h10
    go_enter Tryz.func96, Tryz.ntmps96
    go_wp2_with fail
    go_ret
    exact ⟨rfl, rfl⟩
  have d10 := beqN h10
  by_cases h12 : op = 12
  · subst h12
    go_enter Tryz.func96, Tryz.ntmps96
    go_wp2_with fail
    go_ret
    exact ⟨rfl, rfl⟩
  have d12 := beqN h12
  go_enter Tryz.func96, Tryz.ntmps96
  go_wp2_with fail
  go_ret
  exact ⟨rb (by rw [Bool.eq_iff_iff]; simp [h14, h10, h12]), rfl⟩
theorem rtypeOp_any (op : Int) (w : World) : Calls Tryz.prog 45 #[.int .i64 op] w fun r w' => r = .returned (.bool (tyO op)) ∧ w' = w := by
  unfold tyO
  by_cases h14 : op = 8
  · subst h14
    go_enter Tryz.func45, Tryz.ntmps45
    go_wp2_with fail
    go_ret
    exact ⟨rfl, rfl⟩
  have d14 := beqN h14
  by_cases h10 : op = 10
  · subst h10
    go_enter Tryz.func45, Tryz.ntmps45
    go_wp2_with fail
    go_ret
    exact ⟨rfl, rfl⟩
  have d10 := beqN h10
  by_cases h12 : op = 12
  · subst h12
    go_enter Tryz.func45, Tryz.ntmps45
    go_wp2_with fail
    go_ret
    exact ⟨rfl, rfl⟩
  have d12 := beqN h12
  go_enter Tryz.func45, Tryz.ntmps45
  go_wp2_with fail
  go_ret
  exact ⟨rb (by rw [Bool.eq_iff_iff]; simp [h14, h10, h12]), rfl⟩
theorem tmod2 {op : Int} (h : 0 ≤ op) (q : bgO op = false) (h14 : op < 14) : (op.tmod 2 == 0) = false := by
  rw [Int.tmod_eq_emod_of_nonneg h]
  refine beq_eq_false_iff_ne.2 fun e => ?_
  unfold bgO at q
  have := of_decide_eq_false q
  omega
theorem rbegins_any (op : Int) (w : World) : Calls Tryz.prog 20 #[.int .i64 op] w fun r w' => r = .returned (.bool (bgO op)) ∧ w' = w := by
  rcases op_cases op with h' | rfl | rfl | rfl | rfl | rfl | rfl | rfl | rfl | rfl | rfl | rfl | rfl | rfl | rfl | rfl | rfl
  · have e : bgO op = false := by unfold bgO; exact decide_eq_false (by omega)
    rw [e]
    by_cases h0 : 0 ≤ op
    · have d0 : decide (0 ≤ op) = true := decide_eq_true h0
      have d1 : decide (op < 14) = false := decide_eq_false (by omega)
      go_enter Tryz.func20, Tryz.ntmps20
      go_wp2_with fail
      go_ret
      exact ⟨rfl, rfl⟩
    · have d0 : decide (0 ≤ op) = false := decide_eq_false h0
      go_enter Tryz.func20, Tryz.ntmps20
      go_wp2_with fail
      go_ret
      exact ⟨rfl, rfl⟩
  all_goals
    go_enter Tryz.func20, Tryz.ntmps20
    go_wp2_with fail
    go_ret
    exact ⟨rfl, rfl⟩
end Go.Proofs.YtjjhfiddebmgcaaGreatDoor
namespace Go.Proofs.YtjjhfiddebmgcaaGreatDoor
open Go.ChangeShapes Go.WideShapes Go.ChangeAt Go.RowKit Go.Shelf Go.Maps

/-- Where all lies: the checker, the form, the row of what is open and its room, the tokens, the three maps; the place; ahead of block H nothing is the checker's own. -/
structure Cf where
  B : Nat
  gf : Nat
  go : Nat
  cap : Nat
  g : Nat
  o : Nat
  cp : Nat
  m1 : Nat
  m2 : Nat
  m3 : Nat
  H : Nat
  i : Nat
structure Apart (c : Cf) : Prop where
  g : c.g < c.H
  gf : c.H ≤ c.gf
  B : c.H ≤ c.B
  go : c.H ≤ c.go
  m1 : c.H ≤ c.m1
  m2 : c.H ≤ c.m2
  m3 : c.H ≤ c.m3
  fB : c.gf ≠ c.B
  fo : c.gf ≠ c.go
  f1 : c.gf ≠ c.m1
  f2 : c.gf ≠ c.m2
  f3 : c.gf ≠ c.m3
  Bo : c.B ≠ c.go
  B1 : c.B ≠ c.m1
  B2 : c.B ≠ c.m2
  B3 : c.B ≠ c.m3
  o1 : c.go ≠ c.m1
  o2 : c.go ≠ c.m2
  o3 : c.go ≠ c.m3
  m12 : c.m1 ≠ c.m2
  m13 : c.m1 ≠ c.m3
  m23 : c.m2 ≠ c.m3
structure Ct (w : World) (c : Cf) (f : Fm) (L : List Sv) (x : Sv) (xt t : Tk) (rl : Value) (dep : Nat → Int) (wh : Bool) : Prop where
  ck : CkC w c.B c.gf (.slice (some ⟨c.go, 0, none⟩) (L.length + 1) c.cap) (c.i : Int) rl c.m1 c.m2 c.m3 dep wh
  op : OpR w c.g c.o c.go c.cap (L ++ [x])
  fm : FmC w c.gf 0 f (some ⟨c.g, c.o, none⟩) c.cp
  tl : TkL w (some ⟨c.g, c.o, none⟩) c.H f.toks
  hx : f.toks[x.at_]? = some xt
  ht : f.toks[c.i]? = some t
  ap : Apart c
  kt : KT w
  sz : c.H ≤ w.heap.size
  fl : c.gf < w.heap.size
  k0 : 1 < c.H
  ln : L.length < 1000000000000
theorem KT.same {w w' : World} (h : KT w) (hs : w.heap.size ≤ w'.heap.size) (hb : w'.heap[1]? = w.heap[1]?) : KT w' :=
  ⟨Nat.lt_of_lt_of_le h.pos hs, fun p hp => (cell_blk hb).trans (h.size p hp), fun p hp => (cell_blk hb).trans (h.reading p hp), fun p hp => (cell_blk hb).trans (h.null p hp), fun p hp => (cell_blk hb).trans (h.least p hp), fun p hp => (cell_blk hb).trans (h.most p hp)⟩
section
variable {w w' : World} {c : Cf} {f : Fm} {L : List Sv} {x x' : Sv} {xt t : Tk} {rl : Value} {dep : Nat → Int} {wh : Bool}
theorem Ct.lg (h : Ct w c f L x xt t rl dep wh) : c.g < w.heap.size := Nat.lt_of_lt_of_le h.ap.g h.sz
theorem Ct.ll (h : Ct w c f L x xt t rl dep wh) : f.toks.length ≤ 733007751850 := by have := h.tl.len; omega
theorem Ct.il (h : Ct w c f L x xt t rl dep wh) : c.i < f.toks.length := (List.getElem?_eq_some_iff.1 h.ht).1
theorem Ct.xl (h : Ct w c f L x xt t rl dep wh) : x.at_ < f.toks.length := (List.getElem?_eq_some_iff.1 h.hx).1
/-- Where nothing is written but into maps and new memory. -/
theorem Ct.kept {E : List Nat} (h : Ct w c f L x xt t rl dep wh) (hb : Kb E w w') (hE : ∀ k ∈ E, k = c.m1 ∨ k = c.m2 ∨ k = c.m3) : Ct w' c f L x xt t rl dep wh := by
  have a := h.ap
  have nB : c.B ∉ E := fun e => (hE _ e).elim a.B1 fun e => e.elim a.B2 a.B3
  have no : c.go ∉ E := fun e => (hE _ e).elim a.o1 fun e => e.elim a.o2 a.o3
  have nf : c.gf ∉ E := fun e => (hE _ e).elim a.f1 fun e => e.elim a.f2 a.f3
  have nl : ∀ k, k < c.H → k ∉ E := fun k hk e => by have := a.m1; have := a.m2; have := a.m3; rcases hE _ e with e | e | e <;> omega
  exact ⟨h.ck.same hb.size (hb.block _ h.ck.lt nB), h.op.same (hb.block _ h.op.lt no), h.fm.same (hb.block _ h.fl nf), ⟨h.tl.row.same fun k hk => hb.block k (Nat.lt_of_lt_of_le hk h.sz) (nl k hk), h.tl.len, h.tl.ok⟩, h.hx, h.ht, h.ap, h.kt.same hb.size (hb.block _ (Nat.lt_of_lt_of_le h.k0 h.sz) (nl _ h.k0)), Nat.le_trans h.sz hb.size, Nat.lt_of_lt_of_le h.fl hb.size, h.k0, h.ln⟩
theorem Ct.below (h : Ct w c f L x xt t rl dep wh) (hb : Below w.heap.size w w') : Ct w' c f L x xt t rl dep wh := h.kept (E := []) (Kb.of_below hb) (fun _ e => absurd e List.not_mem_nil)
theorem Ct.tk (h : Ct w c f L x xt t rl dep wh) : ∃ pc cc, TkC w c.g (c.o + c.i * 21) t pc cc ∧ URow w pc c.H t.cst ∧ t.cst.length ≤ cc ∧ TkOk t := by
  obtain ⟨g, o, pc, cc, e, _, h1, h2, h3, h4⟩ := h.tl.at h.ht
  cases e
  exact ⟨pc, cc, h1, h2, h3, h4⟩
theorem Ct.xk (h : Ct w c f L x xt t rl dep wh) : ∃ pc cc, TkC w c.g (c.o + x.at_ * 21) xt pc cc ∧ TkOk xt := by
  obtain ⟨g, o, pc, cc, e, _, h1, _, _, h4⟩ := h.tl.at h.hx
  cases e
  exact ⟨pc, cc, h1, h4⟩
theorem Ct.sc (h : Ct w c f L x xt t rl dep wh) : ScC w c.g c.o c.go (L.length * 8) x := h.op.last
theorem OpR.frz {g o go cap : Nat} {l : List Sv} (h : OpR w g o go cap l) (j : Nat) : w.frozen? ⟨go, j, none⟩ = false := by
  obtain ⟨cur, h1, _⟩ := h.ex
  simp [World.frozen?, h1]
/-- A cell of the last written. -/
theorem Ct.wrote (h : Ct w c f L x xt t rl dep wh) {j : Nat} {v : Value} (hj : j < 8) (hx : svC c.g c.o x' = (svC c.g c.o x).set j v) (ha : x'.at_ = x.at_) : Ct (w.setCell ⟨c.go, L.length * 8 + j, none⟩ v) c f L x' xt t rl dep wh := by
  have hb : Kb [c.go] w (w.setCell ⟨c.go, L.length * 8 + j, none⟩ v) := (Kb.refl _ _).set (List.mem_singleton.2 rfl) v
  have a := h.ap
  have nl : ∀ k, k < c.H → k ∉ [c.go] := fun k hk e => by have := a.go; have := List.mem_singleton.1 e; omega
  exact ⟨h.ck.same hb.size (hb.block _ h.ck.lt (notin1 a.Bo)), h.op.set hj hx, h.fm.same (hb.block _ h.fl (notin1 a.fo)), ⟨h.tl.row.same fun k hk => hb.block k (Nat.lt_of_lt_of_le hk h.sz) (nl k hk), h.tl.len, h.tl.ok⟩, by rw [ha]; exact h.hx, h.ht, h.ap, h.kt.same hb.size (hb.block _ (Nat.lt_of_lt_of_le h.k0 h.sz) (nl _ h.k0)), Nat.le_trans h.sz hb.size, Nat.lt_of_lt_of_le h.fl hb.size, h.k0, h.ln⟩
end
end Go.Proofs.YtjjhfiddebmgcaaGreatDoor
namespace Go.Proofs.YtjjhfiddebmgcaaGreatDoor
open Go.ChangeShapes Go.WideShapes Go.ChangeAt Go.RowKit Go.Shelf Go.Maps

theorem ent_isCoding : ∀ ag w, (callFunc 88 ag).run Tryz.prog w = .ok (.enter 88 ag) w := enters_of Tryz.func88 (by kernel_rfl) rfl
theorem ent_isMember : ∀ ag w, (callFunc 89 ag).run Tryz.prog w = .ok (.enter 89 ag) w := enters_of Tryz.func89 (by kernel_rfl) rfl
theorem ent_isPlaced : ∀ ag w, (callFunc 66 ag).run Tryz.prog w = .ok (.enter 66 ag) w := enters_of Tryz.func66 (by kernel_rfl) rfl
def codT (xt t : Tk) : Bool := decide (t.off = xt.off) && decide (t.siz = xt.siz) && decide (t.pres = xt.pres) && decide (t.len = 1)
set_option maxRecDepth 20000 in
set_option maxHeartbeats 1000000 in
theorem isCoding_any (c : Cf) (f : Fm) (L : List Sv) (x : Sv) (xt t : Tk) (rl : Value) (dep : Nat → Int) (wh : Bool) (w : World) (h : Ct w c f L x xt t rl dep wh) :
    Calls Tryz.prog 88 #[.pointer (some ⟨c.B, 0, none⟩), .pointer (some ⟨c.g, c.o + c.i * 21, none⟩)] w fun r w' => r = .returned (.bool (codT xt t)) ∧ Ct w' c f L { x with cod := t.prim } xt t rl dep wh ∧ Kb [c.go] w w' := by
  have cT := top_any c.B c.go L.length c.cap w h.ck.c0 h.ln
  have hY : ∀ W, Below w.heap.size w W → W.cell? ⟨c.g, c.o + c.i * 21 + 6, none⟩ = some (.int .i64 t.prim) ∧ W.cell? ⟨c.go, L.length * 8 + 7, none⟩ = some (.int .i64 x.cod) ∧ W.frozen? ⟨c.go, L.length * 8 + 7, none⟩ = false := fun W hW => by
    obtain ⟨pc, cc, hT, _⟩ := (h.below hW).tk
    exact ⟨hT.c6, (h.below hW).sc.c7, (h.below hW).op.frz _⟩
  replace h := Hid.mk h
  unfold codT
  rw [← beqD, ← beqD, ← beqD, ← beqD]
  rcases ch3 (t.off == xt.off) (t.siz == xt.siz) (t.pres == xt.pres) with q1 | ⟨q1, q2⟩ | ⟨q1, q2, q3⟩ | ⟨q1, q2, q3⟩
  all_goals
    go_enter Tryz.func88, Tryz.ntmps88
    go_wp2_with (go_at_call 76; refine cT.mono ?_; rintro _ w1 ⟨rfl, hb⟩; obtain ⟨y0, y1, y2⟩ := hY _ hb; clear hY)
    obtain ⟨w2, hw2⟩ : ∃ w2, w2 = w1.setCell ⟨c.go, L.length * 8 + 7, none⟩ (.int .i64 t.prim) := ⟨_, rfl⟩
    rw [← hw2]
    have h2 : Ct w2 c f L { x with cod := t.prim } xt t rl dep wh := by rw [hw2]; exact (h.out.below hb).wrote (by decide) rfl rfl
    have hk2 : Kb [c.go] w w2 := by rw [hw2]; exact (Kb.of_below hb).set (List.mem_singleton.2 rfl) _
    clear hw2 y0 y1 y2 cT
    obtain ⟨pc, cc, hT, hU, hcc, kT⟩ := h2.tk
    obtain ⟨px, cx, hX, kX⟩ := h2.xk
    have hS := h2.sc
    have hC := h2.ck
    have hF := h2.fm
    have hlg := h2.lg
    have hlo := h2.op.lt
    have hlf := h2.fl
    obtain ⟨p, pB, pK, hN, t3, t4, t7, t8, x3, x4, x8, s0⟩ : ∃ p : World → Prop, (∀ W, p W → Kb [] w2 W) ∧
      (∀ W, Kb [] w2 W → p W) ∧
      Nonempty (CW p) ∧
      (∀ θ : CW p, θ.w.cell? ⟨c.g, c.o + c.i * 21 + 3, none⟩ = some (.int .i64 t.off)) ∧
      (∀ θ : CW p, θ.w.cell? ⟨c.g, c.o + c.i * 21 + 4, none⟩ = some (.int .i64 t.siz)) ∧
      (∀ θ : CW p, θ.w.cell? ⟨c.g, c.o + c.i * 21 + 7, none⟩ = some (.int .i64 t.len)) ∧
      (∀ θ : CW p, θ.w.cell? ⟨c.g, c.o + c.i * 21 + 8, none⟩ = some (.int .i64 t.pres)) ∧
      (∀ θ : CW p, θ.w.cell? ⟨c.g, c.o + x.at_ * 21 + 3, none⟩ = some (.int .i64 xt.off)) ∧
      (∀ θ : CW p, θ.w.cell? ⟨c.g, c.o + x.at_ * 21 + 4, none⟩ = some (.int .i64 xt.siz)) ∧
      (∀ θ : CW p, θ.w.cell? ⟨c.g, c.o + x.at_ * 21 + 8, none⟩ = some (.int .i64 xt.pres)) ∧
      (∀ θ : CW p, θ.w.cell? ⟨c.go, L.length * 8, none⟩ = some (.pointer (some ⟨c.g, c.o + x.at_ * 21, none⟩))) :=
      ⟨Kb [] w2,
      fun _ h => h,
      fun _ h => h,
      ⟨⟨_, Kb.refl _ _⟩⟩,
      fun θ => (θ.h.cell hlg List.not_mem_nil).trans hT.c3,
      fun θ => (θ.h.cell hlg List.not_mem_nil).trans hT.c4,
      fun θ => (θ.h.cell hlg List.not_mem_nil).trans hT.c7,
      fun θ => (θ.h.cell hlg List.not_mem_nil).trans hT.c8,
      fun θ => (θ.h.cell hlg List.not_mem_nil).trans hX.c3,
      fun θ => (θ.h.cell hlg List.not_mem_nil).trans hX.c4,
      fun θ => (θ.h.cell hlg List.not_mem_nil).trans hX.c8,
      fun θ => (θ.h.cell hlo List.not_mem_nil).trans hS.c0⟩
    clear hT hX hS hC hF hU hcc hlg hlo hlf
    replace h2 := Hid.mk h2
    replace hk2 := Hid.mk hk2
    refine wp_region_lx p (by kernel_rfl) (by kernel_rfl) (fun _ _ d _ _ h => by cases d <;> exact h) (pK _ (Kb.refl _ _).drew) ?_
    repeat (first | (refine lx_one rfl ?_; (first | go_big_quiet_skip | (go_big_quiet_want; go_big_quiet_op; go_big_quiet_on)); refine wpQuiet_nil ?_) | (refine lx_skip (by rfl) ?_; simp only [pts]))
    refine lx_done ?_
    go_wp2_with fail
    go_ret
    exact ⟨rb (by simp [*]), h2.out.below (tdr1 (Below.refl _ _)), hk2.out.drew⟩
def memT (x : Sv) (xt t : Tk) : Bool := bet t.off xt.off (xt.off + xt.siz - t.siz) && (decide (t.siz = 0) || decide (x.en ≤ t.off))
def memX (x : Sv) (t : Tk) : Sv := if t.siz = 0 then x else { x with en := t.off + t.siz }
set_option maxRecDepth 20000 in
set_option maxHeartbeats 1000000 in
theorem isMember_any (c : Cf) (f : Fm) (L : List Sv) (x : Sv) (xt t : Tk) (rl : Value) (dep : Nat → Int) (wh : Bool) (w : World) (h : Ct w c f L x xt t rl dep wh) (b1 : 0 ≤ xt.off ∧ xt.off ≤ 65535) (b2 : 0 ≤ xt.siz ∧ xt.siz ≤ 65535) (b3 : 0 ≤ t.siz ∧ t.siz ≤ 65535) :
    Calls Tryz.prog 89 #[.pointer (some ⟨c.B, 0, none⟩), .pointer (some ⟨c.g, c.o + c.i * 21, none⟩)] w fun r w' => r = .returned (.bool (memT x xt t)) ∧ Kb [c.go] w w' ∧ (memT x xt t = true → Ct w' c f L (memX x t) xt t rl dep wh) := by
  have cT := top_any c.B c.go L.length c.cap w h.ck.c0 h.ln
  have u1 : IntKind.i64.wrap (xt.off + xt.siz) = xt.off + xt.siz := by rw [IntKind.wrap_i64]; omega
  have u2 : IntKind.i64.wrap (xt.off + xt.siz - t.siz) = xt.off + xt.siz - t.siz := by rw [IntKind.wrap_i64]; omega
  replace h := Hid.mk h
  obtain ⟨q, hq⟩ : ∃ q, bet t.off xt.off (xt.off + xt.siz - t.siz) = q := ⟨_, rfl⟩
  have u3 : q = true → IntKind.i64.wrap (t.off + t.siz) = t.off + t.siz := fun e => by
    rw [e] at hq
    have := betT hq
    rw [IntKind.wrap_i64]; omega
  unfold memT memX
  rw [hq]
  rcases (show q = false ∨ (q = true ∧ t.siz = 0) ∨ (q = true ∧ t.siz ≠ 0) from by cases q <;> simp <;> omega) with e0 | ⟨e0, e1⟩ | ⟨e0, e1⟩
  · rw [e0]
    go_enter Tryz.func89, Tryz.ntmps89
    go_wp2_with (go_at_call 76; refine cT.mono ?_; rintro _ w1 ⟨rfl, hb⟩)
    have h1 := h.out.below hb
    obtain ⟨pc, cc, hT, hU, hcc, kT⟩ := h1.tk
    obtain ⟨px, cx, hX, kX⟩ := h1.xk
    have hS := h1.sc
    have hC := h1.ck
    have hF := h1.fm
    have hlg := h1.lg
    have hlo := h1.op.lt
    have hlf := h1.fl
    obtain ⟨p, pB, pK, hN, t3, t4, x3, x4, s0, cN⟩ : ∃ p : World → Prop, (∀ W, p W → Kb [] w1 W) ∧
      (∀ W, Kb [] w1 W → p W) ∧
      Nonempty (CW p) ∧
      (∀ θ : CW p, θ.w.cell? ⟨c.g, c.o + c.i * 21 + 3, none⟩ = some (.int .i64 t.off)) ∧
      (∀ θ : CW p, θ.w.cell? ⟨c.g, c.o + c.i * 21 + 4, none⟩ = some (.int .i64 t.siz)) ∧
      (∀ θ : CW p, θ.w.cell? ⟨c.g, c.o + x.at_ * 21 + 3, none⟩ = some (.int .i64 xt.off)) ∧
      (∀ θ : CW p, θ.w.cell? ⟨c.g, c.o + x.at_ * 21 + 4, none⟩ = some (.int .i64 xt.siz)) ∧
      (∀ θ : CW p, θ.w.cell? ⟨c.go, L.length * 8, none⟩ = some (.pointer (some ⟨c.g, c.o + x.at_ * 21, none⟩))) ∧
      (∀ W, p W → Calls Tryz.prog 58 #[.int .i64 t.off, .int .i64 xt.off, .int .i64 (xt.off + xt.siz - t.siz)] W fun e w' => e = .returned (.bool (bet t.off xt.off (xt.off + xt.siz - t.siz))) ∧ p w') :=
      ⟨Kb [] w1,
      fun _ h => h,
      fun _ h => h,
      ⟨⟨_, Kb.refl _ _⟩⟩,
      fun θ => (θ.h.cell hlg List.not_mem_nil).trans hT.c3,
      fun θ => (θ.h.cell hlg List.not_mem_nil).trans hT.c4,
      fun θ => (θ.h.cell hlg List.not_mem_nil).trans hX.c3,
      fun θ => (θ.h.cell hlg List.not_mem_nil).trans hX.c4,
      fun θ => (θ.h.cell hlo List.not_mem_nil).trans hS.c0,
      callS (isBetween_any _ _ _)⟩
    clear hT hX hS hC hF hU hcc hlg hlo hlf
    replace h1 := Hid.mk h1
    rw [hq, e0] at cN
    refine wp_region_lp p (by kernel_rfl) (by kernel_rfl) (fun _ _ d _ _ h => by cases d <;> exact h) (pK _ (Kb.refl _ _).drew) fun W hp => ?_
    repeat (first | (refine lx_one rfl ?_; (first | go_big_quiet_skip | (go_big_quiet_want; go_big_quiet_op; go_big_quiet_on)); refine wpQuiet_nil ?_) | (refine lx_p3 ent_isBetween cN hp rfl rfl rfl (by rfl) ?_; intro W hp; simp only [pts]) | (refine lx_skip (by rfl) ?_; simp only [pts]))
    refine lx_done ?_
    have hW : Below w1.heap.size w1 W := Kb0 (pB _ hp)
    go_wp2_with fail
    all_goals
      go_ret
      exact ⟨rfl, Kb.of_below (hb.trans (hW.mono hb.size))⟩
  · have d1 : (t.siz == 0) = true := beq_iff_eq.2 e1
    rw [e0, decide_eq_true e1, if_pos e1]
    clear e1
    go_enter Tryz.func89, Tryz.ntmps89
    go_wp2_with (go_at_call 76; refine cT.mono ?_; rintro _ w1 ⟨rfl, hb⟩)
    have h1 := h.out.below hb
    obtain ⟨pc, cc, hT, hU, hcc, kT⟩ := h1.tk
    obtain ⟨px, cx, hX, kX⟩ := h1.xk
    have hS := h1.sc
    have hC := h1.ck
    have hF := h1.fm
    have hlg := h1.lg
    have hlo := h1.op.lt
    have hlf := h1.fl
    obtain ⟨p, pB, pK, hN, t3, t4, x3, x4, s0, cN⟩ : ∃ p : World → Prop, (∀ W, p W → Kb [] w1 W) ∧
      (∀ W, Kb [] w1 W → p W) ∧
      Nonempty (CW p) ∧
      (∀ θ : CW p, θ.w.cell? ⟨c.g, c.o + c.i * 21 + 3, none⟩ = some (.int .i64 t.off)) ∧
      (∀ θ : CW p, θ.w.cell? ⟨c.g, c.o + c.i * 21 + 4, none⟩ = some (.int .i64 t.siz)) ∧
      (∀ θ : CW p, θ.w.cell? ⟨c.g, c.o + x.at_ * 21 + 3, none⟩ = some (.int .i64 xt.off)) ∧
      (∀ θ : CW p, θ.w.cell? ⟨c.g, c.o + x.at_ * 21 + 4, none⟩ = some (.int .i64 xt.siz)) ∧
      (∀ θ : CW p, θ.w.cell? ⟨c.go, L.length * 8, none⟩ = some (.pointer (some ⟨c.g, c.o + x.at_ * 21, none⟩))) ∧
      (∀ W, p W → Calls Tryz.prog 58 #[.int .i64 t.off, .int .i64 xt.off, .int .i64 (xt.off + xt.siz - t.siz)] W fun e w' => e = .returned (.bool (bet t.off xt.off (xt.off + xt.siz - t.siz))) ∧ p w') :=
      ⟨Kb [] w1,
      fun _ h => h,
      fun _ h => h,
      ⟨⟨_, Kb.refl _ _⟩⟩,
      fun θ => (θ.h.cell hlg List.not_mem_nil).trans hT.c3,
      fun θ => (θ.h.cell hlg List.not_mem_nil).trans hT.c4,
      fun θ => (θ.h.cell hlg List.not_mem_nil).trans hX.c3,
      fun θ => (θ.h.cell hlg List.not_mem_nil).trans hX.c4,
      fun θ => (θ.h.cell hlo List.not_mem_nil).trans hS.c0,
      callS (isBetween_any _ _ _)⟩
    clear hT hX hS hC hF hU hcc hlg hlo hlf
    replace h1 := Hid.mk h1
    rw [hq, e0] at cN
    refine wp_region_lp p (by kernel_rfl) (by kernel_rfl) (fun _ _ d _ _ h => by cases d <;> exact h) (pK _ (Kb.refl _ _).drew) fun W hp => ?_
    repeat (first | (refine lx_one rfl ?_; (first | go_big_quiet_skip | (go_big_quiet_want; go_big_quiet_op; go_big_quiet_on)); refine wpQuiet_nil ?_) | (refine lx_p3 ent_isBetween cN hp rfl rfl rfl (by rfl) ?_; intro W hp; simp only [pts]) | (refine lx_skip (by rfl) ?_; simp only [pts]))
    refine lx_done ?_
    have hW : Below w1.heap.size w1 W := Kb0 (pB _ hp)
    have y4 : W.cell? ⟨c.g, c.o + c.i * 21 + 4, none⟩ = some (.int .i64 t.siz) := t4 ⟨W, hp⟩
    go_wp2_with fail
    go_ret
    exact ⟨rfl, Kb.of_below (hb.trans (hW.mono hb.size)), fun _ => h1.out.below hW⟩
  · have d1 : (t.siz == 0) = false := beq_eq_false_iff_ne.2 e1
    rw [e0, decide_eq_false e1, if_neg e1]
    clear e1
    go_enter Tryz.func89, Tryz.ntmps89
    go_wp2_with (go_at_call 76; refine cT.mono ?_; rintro _ w1 ⟨rfl, hb⟩)
    have h1 := h.out.below hb
    obtain ⟨pc, cc, hT, hU, hcc, kT⟩ := h1.tk
    obtain ⟨px, cx, hX, kX⟩ := h1.xk
    have hS := h1.sc
    have hC := h1.ck
    have hF := h1.fm
    have hlg := h1.lg
    have hlo := h1.op.lt
    have hlf := h1.fl
    obtain ⟨p, pB, pK, hN, t3, t4, x3, x4, s0, cN⟩ : ∃ p : World → Prop, (∀ W, p W → Kb [] w1 W) ∧
      (∀ W, Kb [] w1 W → p W) ∧
      Nonempty (CW p) ∧
      (∀ θ : CW p, θ.w.cell? ⟨c.g, c.o + c.i * 21 + 3, none⟩ = some (.int .i64 t.off)) ∧
      (∀ θ : CW p, θ.w.cell? ⟨c.g, c.o + c.i * 21 + 4, none⟩ = some (.int .i64 t.siz)) ∧
      (∀ θ : CW p, θ.w.cell? ⟨c.g, c.o + x.at_ * 21 + 3, none⟩ = some (.int .i64 xt.off)) ∧
      (∀ θ : CW p, θ.w.cell? ⟨c.g, c.o + x.at_ * 21 + 4, none⟩ = some (.int .i64 xt.siz)) ∧
      (∀ θ : CW p, θ.w.cell? ⟨c.go, L.length * 8, none⟩ = some (.pointer (some ⟨c.g, c.o + x.at_ * 21, none⟩))) ∧
      (∀ W, p W → Calls Tryz.prog 58 #[.int .i64 t.off, .int .i64 xt.off, .int .i64 (xt.off + xt.siz - t.siz)] W fun e w' => e = .returned (.bool (bet t.off xt.off (xt.off + xt.siz - t.siz))) ∧ p w') :=
      ⟨Kb [] w1,
      fun _ h => h,
      fun _ h => h,
      ⟨⟨_, Kb.refl _ _⟩⟩,
      fun θ => (θ.h.cell hlg List.not_mem_nil).trans hT.c3,
      fun θ => (θ.h.cell hlg List.not_mem_nil).trans hT.c4,
      fun θ => (θ.h.cell hlg List.not_mem_nil).trans hX.c3,
      fun θ => (θ.h.cell hlg List.not_mem_nil).trans hX.c4,
      fun θ => (θ.h.cell hlo List.not_mem_nil).trans hS.c0,
      callS (isBetween_any _ _ _)⟩
    clear hT hX hS hC hF hU hcc hlg hlo hlf
    replace h1 := Hid.mk h1
    rw [hq, e0] at cN
    refine wp_region_lp p (by kernel_rfl) (by kernel_rfl) (fun _ _ d _ _ h => by cases d <;> exact h) (pK _ (Kb.refl _ _).drew) fun W hp => ?_
    repeat (first | (refine lx_one rfl ?_; (first | go_big_quiet_skip | (go_big_quiet_want; go_big_quiet_op; go_big_quiet_on)); refine wpQuiet_nil ?_) | (refine lx_p3 ent_isBetween cN hp rfl rfl rfl (by rfl) ?_; intro W hp; simp only [pts]) | (refine lx_skip (by rfl) ?_; simp only [pts]))
    refine lx_done ?_
    have hW : Below w1.heap.size w1 W := Kb0 (pB _ hp)
    have y4 : W.cell? ⟨c.g, c.o + c.i * 21 + 4, none⟩ = some (.int .i64 t.siz) := t4 ⟨W, hp⟩
    have h2 := h1.out.below hW
    have z6 := h2.sc.c6
    have zf := h2.op.frz (L.length * 8 + 6)
    have z6 := z6
    clear hN t3 t4 x3 x4 s0 cN pB pK hp
    have u3 := u3 e0
    obtain ⟨w3, hw3⟩ : ∃ w3, w3 = W := ⟨_, rfl⟩
    subst hw3
    go_wp2_with fail
    obtain ⟨pc, cc, hT, hU, hcc, kT⟩ := h2.tk
    obtain ⟨px, cx, hX, kX⟩ := h2.xk
    have hS := h2.sc
    have hC := h2.ck
    have hF := h2.fm
    have hlg := h2.lg
    have hlo := h2.op.lt
    have hlf := h2.fl
    have ho : c.g ≠ c.go := by have := h2.ap.g; have := h2.ap.go; omega
    obtain ⟨p, pB, pK, hN, t3, t4⟩ : ∃ p : World → Prop, (∀ W, p W → Kb [c.go] w3 W) ∧
      (∀ W, Kb [c.go] w3 W → p W) ∧
      Nonempty (CW p) ∧
      (∀ θ : CW p, θ.w.cell? ⟨c.g, c.o + c.i * 21 + 3, none⟩ = some (.int .i64 t.off)) ∧
      (∀ θ : CW p, θ.w.cell? ⟨c.g, c.o + c.i * 21 + 4, none⟩ = some (.int .i64 t.siz)) :=
      ⟨Kb [c.go] w3,
      fun _ h => h,
      fun _ h => h,
      ⟨⟨_, Kb.refl _ _⟩⟩,
      fun θ => (θ.h.cell hlg (notin1 ho)).trans hT.c3,
      fun θ => (θ.h.cell hlg (notin1 ho)).trans hT.c4⟩
    clear hT hX hS hC hF hU hcc hlg hlo hlf ho
    replace h2 := Hid.mk h2
    refine wp_region_lx p (by kernel_rfl) (by kernel_rfl) (fun _ _ d _ _ h => by cases d <;> exact h) (pK _ (Kb.refl _ _).drew) ?_
    repeat (first | (refine lx_one rfl ?_; (first | go_big_quiet_skip | (go_big_quiet_want; go_big_quiet_op; go_big_quiet_on)); refine wpQuiet_nil ?_) | (refine lx_skip (by rfl) ?_; simp only [pts]))
    refine lx_act (by rfl) (by rfl) ?_
    intro K hK
    go_simp
    refine hK _ _ ⟨⟨_, pK _ ((Kb.refl _ _).set (List.mem_singleton.2 rfl) _).drew⟩, rfl⟩ ?_
    clear hK K
    try simp only [pts]
    have h3 : Ct (w3.setCell ⟨c.go, L.length * 8 + 6, none⟩ (.int .i64 (t.off + t.siz))).drew c f L { x with en := t.off + t.siz } xt t rl dep wh := (h2.out.wrote (x' := { x with en := t.off + t.siz }) (j := 6) (v := .int .i64 (t.off + t.siz)) (by decide) rfl rfl).below (tdr1 (Below.refl _ _))
    have hk3 : Kb [c.go] w (w3.setCell ⟨c.go, L.length * 8 + 6, none⟩ (.int .i64 (t.off + t.siz))).drew := ((Kb.of_below (hb.trans (hW.mono hb.size))).set (List.mem_singleton.2 rfl) _).drew
    generalize (w3.setCell ⟨c.go, L.length * 8 + 6, none⟩ (.int .i64 (t.off + t.siz))).drew = w4 at h3 hk3 ⊢
    refine lx_done ?_
    obtain ⟨_, _, hT3, _⟩ := h3.tk
    have y3 := hT3.c3
    clear hT3
    replace h3 := Hid.mk h3
    go_wp2_with fail
    go_ret
    exact ⟨rb (by simp), hk3, fun _ => h3.out⟩
end Go.Proofs.YtjjhfiddebmgcaaGreatDoor

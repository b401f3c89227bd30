/- Package look: caught. -/
import Derived.Test.YtfikmlckcbnppaaDoorLpQ
import Derived.Defers
import Derived.Recover
import Derived.Laws.Pointers
import Derived.Laws.EntriesVeiled
namespace Go.Proofs.YtfikmlckcbnppaaDoor
open Go.ChangeShapes Go.WideShapes Go.ChangeAt Go.RowKit Go.Shelf Go.Maps

theorem catch_idle (p : Addr) (w : World) :
    CallsD Tryd.prog 22 #[.pointer (some p)] .returning w fun e u' w' => e = .returned (.tuple #[]) ∧ u' = .returning ∧ w' = w := by
  refine callsD_of_wpS Tryd.func22 rfl fun c₀ cs hu => ?_
  apply wpS_seq
  apply wpS_region
  simp [wpOpsS, go_sem, recoverD, hu, Tryd.ntmps22, Exit.thenS]
  refine wpS_of_wp ?_
  simp only [Array.replicate_succ, Array.replicate_zero, List.push_toArray, List.nil_append, List.cons_append, Array.setIfInBounds, List.size_toArray, List.length_cons, List.length_nil, Nat.reduceAdd]
  simp only [Nat.reduceLT, dite_true, List.set_toArray, List.set_cons_succ, List.set_cons_zero]
  go_wp2_with fail
  exact ⟨rfl, .returning, by cases c₀; simp_all, _, by simp [results, Tryd.results22, go_sem], rfl, rfl, rfl⟩
theorem run_assert_e (x : Value) (w : World) : (Instr.typeAssert (.iface 23 x) 20 23 false).run Tryd.prog w = .ok x w := by
  simp [Instr.typeAssert, run_underlying Tryd.underlying23]
theorem catch_pan (g : Nat) (c : Value) (w : World) (hc : w.cell? ⟨g, 0, none⟩ = some c) (hf : w.frozen? ⟨g, 0, none⟩ = false) :
    CallsD Tryd.prog 22 #[.pointer (some ⟨g, 0, none⟩)] (.panicking [pvE]) w fun r u' w' => r = .returned (.tuple #[]) ∧ u' = .panicking [{ pvE with recovered := true }] ∧ w' = w.setCell ⟨g, 0, none⟩ (.int .i64 210) := by
  have hta := run_assert_e
  refine callsD_of_wpS Tryd.func22 rfl fun c₀ cs hu => ?_
  apply wpS_seq
  apply wpS_region
  simp [wpOpsS, go_sem, recoverD, hu, Tryd.ntmps22, Exit.thenS]
  refine wpS_of_wp ?_
  simp only [Array.replicate_succ, Array.replicate_zero, List.push_toArray, List.nil_append, List.cons_append, Array.setIfInBounds, List.size_toArray, List.length_cons, List.length_nil, Nat.reduceAdd]
  simp only [Nat.reduceLT, dite_true, List.set_toArray, List.set_cons_succ, List.set_cons_zero]
  go_wp2_with fail
  exact ⟨rfl, _, rfl, _, by simp [results, Tryd.results22, go_sem], rfl, rfl, rfl⟩
abbrev eO (n : Int) : Obj := .cells #[.int .i64 n] 23
abbrev doV (p q : Value) : Value := .func (.func 17) #[] #[p, q]
theorem res_caught (tmps : Array Value) (b : Nat) (n : Int) (h2 : tmps[2]?.getD undef = .pointer (some ⟨b, 0, none⟩)) (W : World) (hT : W.cell? ⟨b, 0, none⟩ = some (.int .i64 n)) :
    (results Tryd.f16 tmps).run Tryd.prog W = .ok (.int .i64 n) W := by
  simp [results, Tryd.results16, go_sem, h2, hT]
set_option maxRecDepth 20000 in
theorem caught_ok (p q : Value) (w : World) (Q : World → Prop) (hd : Calls Tryd.prog 17 #[p, q] (w.alloc (eO 0)) fun e w' => e = .returned (.tuple #[]) ∧ (Q w' ∧ w'.heap[w.heap.size]? = some (eO 0))) :
    Calls Tryd.prog 16 #[doV p q] w fun e w' => ∃ w1, Q w1 ∧ w1.heap[w.heap.size]? = some (eO 0) ∧ e = .returned (.int .i64 0) ∧ w' = w1.setCell ⟨w.heap.size, 0, none⟩ (.int .i64 0) := by
  go_enter_defers Tryd.func16, Tryd.ntmps16
  go_wp2_with (go_at_call 17; refine hd.mono ?_; rintro _ w1 ⟨rfl, h1, h2⟩; have c1 := cell_at h2 0; have f1 : w1.frozen? ⟨w.heap.size, 0, none⟩ = false := frz_at h2)
  have hT : (w1.setCell ⟨w.heap.size, 0, none⟩ (.int .i64 0)).cell? ⟨w.heap.size, 0, none⟩ = some (.int .i64 0) := World.cell?_setCell_same w1 ⟨w.heap.size, 0, none⟩ _ c1
  refine leaves_cons (f := 22) (args := #[.pointer (some ⟨w.heap.size, 0, none⟩)]) (by simp) (by simp [go_sem]) ?_
  refine (catch_idle _ _).mono ?_
  rintro e u' w'' ⟨rfl, rfl, rfl⟩
  exact ⟨_, res_caught _ _ _ rfl _ hT, w1, h1, h2, rfl, rfl⟩
set_option maxRecDepth 20000 in
theorem caught_no (p q : Value) (w : World) (Q : World → Prop) (hd : Calls Tryd.prog 17 #[p, q] (w.alloc (eO 0)) fun e w' => e = .panicked [pvE] ∧ (Q w' ∧ w'.heap[w.heap.size]? = some (eO 0))) :
    Calls Tryd.prog 16 #[doV p q] w fun e w' => ∃ w1, Q w1 ∧ w1.heap[w.heap.size]? = some (eO 0) ∧ e = .returned (.int .i64 210) ∧ w' = w1.setCell ⟨w.heap.size, 0, none⟩ (.int .i64 210) := by
  go_enter_defers Tryd.func16, Tryd.ntmps16
  go_wp2_with (go_at_call 17; refine hd.mono ?_; rintro _ w1 ⟨rfl, h1, h2⟩; have c1 := cell_at h2 0; have f1 : w1.frozen? ⟨w.heap.size, 0, none⟩ = false := frz_at h2)
  have hT : (w1.setCell ⟨w.heap.size, 0, none⟩ (.int .i64 210)).cell? ⟨w.heap.size, 0, none⟩ = some (.int .i64 210) := World.cell?_setCell_same w1 ⟨w.heap.size, 0, none⟩ _ c1
  refine leaves_cons (f := 22) (args := #[.pointer (some ⟨w.heap.size, 0, none⟩)]) (by simp) (by simp [go_sem]) ?_
  refine (catch_pan _ _ _ c1 f1).mono ?_
  rintro e u' w'' ⟨rfl, rfl, rfl⟩
  exact ⟨_, res_caught _ _ _ rfl _ hT, w1, h1, h2, rfl, rfl⟩
/-- The closure: its reader in block X's variable, its answer's in block P. -/
theorem do_ok (R X P : Nat) (s : ByteArray) (hs : s.size ≤ 1048576) (w : World) (h : RA w R s 0) (hX : w.heap[X]? = some (.cells #[.pointer (some ⟨R, 0, none⟩)] 52)) (hP : w.heap[P]? = some (.cells #[.slice none 0 0] 22)) (hPR : P ≠ R) {l : List (ByteArray × Int)} {b0 : Nat} (hp : pathZ s = (some l, b0)) :
    Calls Tryd.prog 17 #[.pointer (some ⟨X, 0, none⟩), .pointer (some ⟨P, 0, none⟩)] w fun e w' => e = .returned (.tuple #[]) ∧ ∃ w1 v c, StR w1 w.heap.size v l ∧ Rd w R s c w1 ∧ w' = w1.setCell ⟨P, 0, none⟩ v := by
  have hc := path_any R s hs w h hp
  have x0 := cell_at hX 0
  have hPl := (Array.getElem?_eq_some_iff.1 hP).1
  have cP : Calls Tryd.prog 18 #[.pointer (some ⟨R, 0, none⟩)] w fun e w1 => ∃ pv cv c, e = .returned (.slice pv l.length cv) ∧ w1.cell? ⟨P, 0, none⟩ = some (.slice none 0 0) ∧ w1.frozen? ⟨P, 0, none⟩ = false ∧ Hid (StR w1 w.heap.size (.slice pv l.length cv) l ∧ Rd w R s c w1) := hc.mono fun e w1 hE => by
    rcases hE with ⟨h1, -⟩ | ⟨l', v, c, h1, h2, h3, h4⟩
    · cases h1
    · cases h1
      have hP1 := (h4.mv.but.block P hPl hPR).trans hP
      obtain ⟨pv, cv, rfl⟩ : ∃ pv cv, v = .slice pv l.length cv := by
        rcases (show World.ownsRow _ _ _ _ _ _ _ from h3).2 with ⟨e, e0⟩ | ⟨g, cap, cur, e, -⟩
        · exact ⟨none, 0, by rw [e, e0]⟩
        · exact ⟨_, _, e⟩
      exact ⟨pv, cv, c, h2, cell_at hP1 0, frz_at hP1, ⟨h3, h4⟩⟩
  clear hc h hX hP hp
  go_enter Tryd.func17, Tryd.ntmps17
  go_wp2_with (go_at_call 18; refine cP.mono ?_; rintro _ w1 ⟨pv, cv, c, rfl, k1, k2, hF⟩)
  go_end0
  exact ⟨rfl, w1, _, c, hF.out.1, hF.out.2, rfl⟩
theorem do_no (R X P : Nat) (s : ByteArray) (hs : s.size ≤ 1048576) (w : World) (h : RA w R s 0) (hX : w.heap[X]? = some (.cells #[.pointer (some ⟨R, 0, none⟩)] 52)) {b0 : Nat} (hp : pathZ s = (none, b0)) :
    Calls Tryd.prog 17 #[.pointer (some ⟨X, 0, none⟩), .pointer (some ⟨P, 0, none⟩)] w fun e w' => e = .panicked [pvE] ∧ Rd w R s b0 w' := by
  have x0 := cell_at hX 0
  have cP : Calls Tryd.prog 18 #[.pointer (some ⟨R, 0, none⟩)] w fun e w1 => e = .panicked [pvE] ∧ Hid (Rd w R s b0 w1) := (path_any R s hs w h hp).mono fun e w1 hE => by
    rcases hE with ⟨-, h1, h2⟩ | ⟨l', v, c, h1, -⟩
    · exact ⟨h1, ⟨h2⟩⟩
    · cases h1
  clear h hX hp
  go_enter Tryd.func17, Tryd.ntmps17
  go_wp2_with (go_at_call 18; refine cP.mono ?_; rintro _ w1 ⟨rfl, hF⟩)
  exact ⟨rfl, rfl, hF.out⟩
end Go.Proofs.YtfikmlckcbnppaaDoor

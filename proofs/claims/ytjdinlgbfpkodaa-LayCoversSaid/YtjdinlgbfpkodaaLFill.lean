/- The rooms laid by one of the row's functions. -/
import Derived.Test.YtjdinlgbfpkodaaLOne3
import Derived.Defers
import Derived.Laws.EntriesVeiled
namespace Go.Proofs.Ytjdinlgbfpkodaa
open Go.ChangeShapes Go.WideShapes Go.ChangeAt Go.RowKit

theorem hmfA : ∀ (fn : Fn) (first cap : Array Value) (w : World), (Instr.makeFunc fn first cap).run Try.prog w = .ok (.func fn first cap) w := fun _ _ _ _ => rfl
def zV : Nat → Value := fun j => if j < 3 then .int .i64 0 else nilS
theorem fillD_ok (E Bx : Addr) (u : FrameMode) (w : World) (h : w.cell? E = some (.int .i64 0)) :
    CallsD Try.prog 37 #[.pointer (some E), .pointer (some Bx)] u w fun e u' w' => u' = u ∧ (e = .returned (.tuple #[]) ∧ w' = w) := by
  go_enter_d Try.func37, Try.ntmps37
  go_wp2_with fail
  go_end0
  exact ⟨rfl, rfl⟩
theorem upd5 (v : Nat → Value) : ∀ o, o < 5 → upd (upd (upd (upd (upd v 0 (.int .i64 0)) 1 (.int .i64 0)) 2 (.int .i64 0)) 3 nilS) 4 nilS o = zV o := by
  intro o ho
  have : o = 0 ∨ o = 1 ∨ o = 2 ∨ o = 3 ∨ o = 4 := by omega
  rcases this with rfl | rfl | rfl | rfl | rfl <;> rfl
theorem RC.cong {w : World} {R : Nat} {v v' : Nat → Value} (h : RC w R v) (e : ∀ o, o < 5 → v o = v' o) : RC w R v' := ⟨fun o ho => by rw [← e o ho]; exact h.c o ho, h.fz, h.lt⟩
theorem fillD_err (E Bx : Addr) (R : Nat) (er : Int) (v : Nat → Value) (u : FrameMode) (w : World) (h : w.cell? E = some (.int .i64 er)) (her : er ≠ 0) (hb : w.cell? Bx = some (.pointer (some ⟨R, 0, none⟩))) (hC : RC w R v) :
    CallsD Try.prog 37 #[.pointer (some E), .pointer (some Bx)] u w fun e u' w' => u' = u ∧ (e = .returned (.tuple #[]) ∧ Kp R w.heap.size w w' ∧ RC w' R zV) := by
  have hb1 : (er == 0) = false := beq_eq_false_iff_ne.2 her
  have hb2 : (er != 0) = true := by rw [bne, hb1]; rfl
  have k1 := hC.set 0 (.int .i64 0)
  have k2 := k1.set 1 (.int .i64 0)
  have k3 := k2.set 2 (.int .i64 0)
  have k4 := k3.set 3 nilS
  have HX : Hid (Kp R w.heap.size w (((((w.setCell ⟨R, 0, none⟩ (.int .i64 0)).setCell ⟨R, 1, none⟩ (.int .i64 0)).setCell ⟨R, 2, none⟩ (.int .i64 0)).setCell ⟨R, 3, none⟩ nilS).setCell ⟨R, 4, none⟩ nilS) ∧ RC (((((w.setCell ⟨R, 0, none⟩ (.int .i64 0)).setCell ⟨R, 1, none⟩ (.int .i64 0)).setCell ⟨R, 2, none⟩ (.int .i64 0)).setCell ⟨R, 3, none⟩ nilS).setCell ⟨R, 4, none⟩ nilS) R zV) := Hid.mk <|
    ⟨((((Kp.set R _ 0 w _).trans (Kp.set R _ 1 _ _)).trans (Kp.set R _ 2 _ _)).trans (Kp.set R _ 3 _ _)).trans (Kp.set R _ 4 _ _), (k4.set 4 nilS).cong (upd5 v)⟩
  have a0 := hC.c 0 (by decide)
  have a1 := k1.c 1 (by decide)
  have a2 := k2.c 2 (by decide)
  have a3 := k3.c 3 (by decide)
  have a4 := k4.c 4 (by decide)
  have f0 := hC.fz 0
  have f1 := k1.fz 1
  have f2 := k2.fz 2
  have f3 := k3.fz 3
  have f4 := k4.fz 4
  clear k1 k2 k3 k4 hC
  go_enter_d Try.func37, Try.ntmps37
  go_wp2_with fail
  go_end0
  exact ⟨rfl, HX.out.1, HX.out.2⟩
def s0 : St := ⟨0, 0, [], []⟩
def fillR (k : Nat) : List Rm → St → Nat → Except (Int × Nat) St
  | [], s, _ => .ok s
  | x :: r, s, i => if layErr x s.e = 0 then fillR k r (stp k s x) (i + 1) else .error (layErr x s.e, i)
def sayB (b e : Int) : Int := if b = -1 then e else b
def fillZ (k : Nat) (l : List Rm) (b : Int) : Int × Nat × Option (St × Int) :=
  if blkErr b = 0 then (match fillR k l s0 0 with
    | .error p => (p.1, p.2, none)
    | .ok s => if sayB b s.e < s.e then (71, l.length, none) else (0, 0, some (s, sayB b s.e)))
  else (blkErr b, l.length, none)
structure StOk (s : St) (j : Nat) : Prop where
  e : 0 ≤ s.e ∧ s.e ≤ 65535
  t : 0 ≤ s.t ∧ s.t ≤ 65535
  o : s.off.length ≤ j
  l : s.tol.length ≤ j
theorem gapL_length (t u : Int) : (gapL t u).length ≤ 1 := by unfold gapL; split <;> simp
theorem StOk.stp {s : St} {j : Nat} (h : StOk s j) (k : Nat) {x : Rm} (hE : layErr x s.e = 0) : StOk (Go.Proofs.Ytjdinlgbfpkodaa.stp k s x) (j + 1) := by
  have hok := layErr_ok hE
  have := h.e
  have := h.o
  have := h.l
  have := h.t
  have hg := gapL_length s.t x.of
  unfold Go.Proofs.Ytjdinlgbfpkodaa.stp
  split
  · exact ⟨by dsimp only; omega, h.t, by simp; omega, by show s.tol.length ≤ _; omega⟩
  · split
    · split
      · exact ⟨by dsimp only; omega, by dsimp only; omega, by show s.off.length ≤ _; omega, by show (s.tol ++ _).length ≤ _; rw [List.length_append]; omega⟩
      · exact ⟨by dsimp only; omega, h.t, by show s.off.length ≤ _; omega, by show s.tol.length ≤ _; omega⟩
    · exact ⟨by dsimp only; omega, h.t, by show s.off.length ≤ _; omega, by show (s.tol ++ _).length ≤ _; simp; omega⟩
set_option maxHeartbeats 2000000 in
theorem close_any (k R H : Nat) (s : St) (b : Int) (w : World) (hS : SRow k w R H s 0) (hR : R < H) :
    Calls Try.prog 39 #[.pointer (some ⟨R, 0, none⟩), .int .i64 b] w fun r w' => r = .returned (.int .i64 (if sayB b s.e < s.e then 71 else 0)) ∧ Kp R w.heap.size w w' ∧ SRow k w' R H s (sayB b s.e) := by
  obtain ⟨v, hC, h0, h1, h2, hk⟩ := hS
  have hsd : ∀ W, Calls Try.prog 41 #[.int .i64 b, .int .i64 s.e] W fun r w' => r = .returned (.int .i64 (sayB b s.e)) ∧ w' = W := fun W => said_any b s.e W
  generalize sayB b s.e = S at hsd ⊢
  have e0 := hC.c 0 (by decide)
  rw [h0] at e0
  have e2 := hC.c 2 (by decide)
  have f2 := hC.fz 2
  have hC2 := hC.set 2 (.int .i64 S)
  have d0 := hC2.c 0 (by decide)
  have d00 : upd v 2 (.int .i64 S) 0 = .int .i64 s.e := h0
  rw [d00] at d0
  have d2 := hC2.c 2 (by decide)
  have d20 : upd v 2 (.int .i64 S) 2 = .int .i64 S := rfl
  rw [d20] at d2
  have HX : Hid (Kp R w.heap.size w (w.setCell ⟨R, 2, none⟩ (.int .i64 S)) ∧ SRow k (w.setCell ⟨R, 2, none⟩ (.int .i64 S)) R H s S) := by
    refine ⟨Kp.set R _ 2 w _, _, hC2, h0, h1, rfl, ?_⟩
    have hs : ∀ {ty : TypeId} {sz n : Nat} {u : Value} {xs : List Value}, w.ownsRow H ty sz u n xs → (w.setCell ⟨R, 2, none⟩ (.int .i64 S)).ownsRow H ty sz u n xs := fun h => own_same h fun k hk => Below.heap_setCell _ _ _ _ (show k ≠ R from fun e => by have := own_lt h hk; omega)
    rcases hk with ⟨a, z, r⟩ | ⟨a, r, q, z⟩
    · exact .inl ⟨a, hs z, r⟩
    · exact .inr ⟨a, r, q, hs z⟩
  have HD : ∀ n, Hid (Kp R w.heap.size w ((w.setCell ⟨R, 2, none⟩ (.int .i64 S)).drewN n) ∧ SRow k ((w.setCell ⟨R, 2, none⟩ (.int .i64 S)).drewN n) R H s S) := fun n => ⟨HX.out.1.drewN n, by
    obtain ⟨v, a, b, c, d, e⟩ := HX.out.2
    refine ⟨v, a.drewN n, b, c, d, ?_⟩
    rcases e with ⟨a, z, r⟩ | ⟨a, r, q, z⟩
    · exact .inl ⟨a, own_same z fun _ _ => rfl, r⟩
    · exact .inr ⟨a, r, q, own_same z fun _ _ => rfl⟩⟩
  clear hC hC2 hk HX d00 d20 h1 h2
  by_cases hlt : S < s.e
  · rw [if_pos hlt]
    go_enter Try.func39, Try.ntmps39
    go_wp2_with (go_at_call 41; refine (hsd _).mono ?_; rintro _ _ ⟨rfl, rfl⟩)
    go_quiet (fail)
    go_wp2_with fail
    go_ret
    exact ⟨rfl, (HD _).out.1, (HD _).out.2⟩
  · rw [if_neg hlt]
    go_enter Try.func39, Try.ntmps39
    go_wp2_with (go_at_call 41; refine (hsd _).mono ?_; rintro _ _ ⟨rfl, rfl⟩)
    go_quiet (fail)
    go_wp2_with fail
    go_ret
    exact ⟨rfl, (HD _).out.1, (HD _).out.2⟩
end Go.Proofs.Ytjdinlgbfpkodaa

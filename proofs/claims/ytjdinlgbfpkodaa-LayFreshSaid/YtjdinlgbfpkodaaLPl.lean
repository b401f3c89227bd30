/- Place. -/
import Derived.Test.YtjdinlgbfpkodaaLFill2
import Derived.Shelf.Abstract
namespace Go.Proofs.Ytjdinlgbfpkodaa
open Go.ChangeShapes Go.WideShapes Go.ChangeAt Go.RowKit Go.Shelf

structure PlZ where
  off : List Int
  n : Int
  er : Int
  who : Nat
def placeZ (l : List Rm) (b : Int) : PlZ := match (fillZ 0 l b).2.2 with
  | none => ⟨[], 0, (fillZ 0 l b).1, (fillZ 0 l b).2.1⟩
  | some (s, c) => ⟨s.off, c, (fillZ 0 l b).1, (fillZ 0 l b).2.1⟩
theorem ent_place : ∀ ag w, (callFunc 29 ag).run Try.prog w = .ok (.enter 29 ag) w := enters_of Try.func29 (by kernel_rfl) rfl
theorem ent_gap : ∀ ag w, (callFunc 33 ag).run Try.prog w = .ok (.enter 33 ag) w := enters_of Try.func33 (by kernel_rfl) rfl
theorem ent_plain : ∀ ag w, (callFunc 31 ag).run Try.prog w = .ok (.enter 31 ag) w := enters_of Try.func31 (by kernel_rfl) rfl
abbrev rowO : Obj := .cells #[.int .i64 0, .int .i64 0, .int .i64 0, nilS, nilS] 55
theorem rc_new (w : World) : RC (w.alloc rowO) w.heap.size zV :=
  ⟨fun o ho => by
    rw [cell_lit (heap_new w _) o]
    have : o = 0 ∨ o = 1 ∨ o = 2 ∨ o = 3 ∨ o = 4 := by omega
    rcases this with rfl | rfl | rfl | rfl | rfl <;> rfl, fun o => by simp only [World.frozen?, heap_new]; simp, by rw [World.size_alloc]; omega⟩
theorem RmRow.ne {w : World} {pp : Option Addr} {H R : Nat} {l : List Rm} (h : RmRow w pp H l) (hl : l ≠ []) (hR : H ≤ R) : ∀ a, pp = some a → a.block ≠ R := by
  intro a ha
  cases l with
  | nil => exact absurd rfl hl
  | cons x r =>
    obtain ⟨g, o, e, hg, _⟩ := h.c 0 x rfl
    rw [e] at ha
    cases ha
    show g ≠ R
    omega
/-- A list handed in lies somewhere. -/
structure SlR (w : World) (pp : Option Addr) (H : Nat) (l : List Rm) : Prop where
  row : RmRow w pp H l
structure SlZ (w : World) (pp : Option Addr) (H : Nat) (l : List Int) : Prop where
  row : ZRow w pp H l
theorem SlR.below {w w' : World} {pp : Option Addr} {H : Nat} {l : List Rm} (h : SlR w pp H l) (hb : Below H w w') : SlR w' pp H l := ⟨h.row.below hb⟩
theorem SlZ.below {w w' : World} {pp : Option Addr} {H : Nat} {l : List Int} (h : SlZ w pp H l) (hb : Below H w w') : SlZ w' pp H l := ⟨h.row.below hb⟩
theorem SlR.mono {w : World} {pp : Option Addr} {H H' : Nat} {l : List Rm} (h : SlR w pp H l) (hH : H ≤ H') : SlR w pp H' l := ⟨h.row.mono hH⟩
theorem SlZ.mono {w : World} {pp : Option Addr} {H H' : Nat} {l : List Int} (h : SlZ w pp H l) (hH : H ≤ H') : SlZ w pp H' l := ⟨h.row.mono hH⟩
theorem SlR.up {w w' : World} {pp : Option Addr} {l : List Rm} (h : SlR w pp w.heap.size l) (hb : Below w.heap.size w w') : SlR w' pp w'.heap.size l := (h.below hb).mono hb.size
theorem SlZ.up {w w' : World} {pp : Option Addr} {l : List Int} (h : SlZ w pp w.heap.size l) (hb : Below w.heap.size w w') : SlZ w' pp w'.heap.size l := (h.below hb).mono hb.size
theorem ZOwn.sl {W : World} {base : Nat} {v : Value} {l : List Int} (h : ZOwn W base v l) : ∃ pp cp, v = .slice pp l.length cp ∧ SlZ W pp W.heap.size l := by
  obtain ⟨pp, cp, e, hr⟩ := h.shape
  exact ⟨pp, cp, e, ⟨hr⟩⟩
theorem ROwn.sl {W : World} {base : Nat} {v : Value} {l : List Rm} (h : ROwn W base v l) : ∃ pp cp, v = .slice pp l.length cp ∧ SlR W pp W.heap.size l := by
  obtain ⟨pp, cp, e, hr⟩ := h.shape
  exact ⟨pp, cp, e, ⟨hr⟩⟩
theorem SRow.z {w : World} {R H : Nat} {s : St} {b : Int} (h : SRow 0 w R H s b) : ∃ v, RC w R v ∧ v 0 = .int .i64 s.e ∧ v 2 = .int .i64 b ∧ ZOwn w H (v 3) s.off := by
  obtain ⟨v, hC, h0, h1, h2, hk⟩ := h
  rcases hk with ⟨_, z, _⟩ | ⟨k, _⟩
  · exact ⟨v, hC, h0, h2, z⟩
  · exact absurd rfl k
theorem SRow.r {k : Nat} {w : World} {R H : Nat} {s : St} {b : Int} (h : SRow k w R H s b) (hk0 : k ≠ 0) : ∃ v, RC w R v ∧ v 0 = .int .i64 s.e ∧ v 1 = .int .i64 s.t ∧ v 2 = .int .i64 b ∧ ROwn w H (v 4) s.tol := by
  obtain ⟨v, hC, h0, h1, h2, hk⟩ := h
  rcases hk with ⟨k, _⟩ | ⟨_, _, _, z⟩
  · exact absurd k hk0
  · exact ⟨v, hC, h0, h1, h2, z⟩
set_option maxHeartbeats 2000000 in
theorem Place_any (l : List Rm) (pp : Option Addr) (cp : Nat) (b : Int) (w : World) (hr : SlR w pp w.heap.size l) (hl : l.length ≤ 8796093021952) (hx : ∀ x ∈ l, x.ok) :
    Calls Try.prog 10 #[.slice pp l.length cp, .int .i64 b] w fun r w' => ∃ v, r = .returned (.tuple #[v, .int .i64 (placeZ l b).n, .int .i64 (placeZ l b).er, .int .i64 ((placeZ l b).who : Int)]) ∧ ZOwn w' w.heap.size v (placeZ l b).off ∧ Below w.heap.size w w' := by
  have hmf := hmfA
  have hB := bel1 w rowO
  have hs : (w.alloc rowO).heap.size = w.heap.size + 1 := by rw [World.size_alloc]
  have cF := fill_any 0 29 w.heap.size 8796093021952 l pp cp b (w.alloc rowO) (rc_new w) (one_place _ _) ent_place ((hr.row.below hB).mono hB.size) (fun hne a ha => hr.row.ne hne (Nat.le_refl _) a ha) hl (Nat.le_refl _) hx
  unfold FillPost at cF
  obtain ⟨Z, hZ⟩ : ∃ Z, fillZ 0 l b = Z := ⟨_, rfl⟩
  unfold placeZ
  rw [hZ] at cF ⊢
  obtain ⟨er, who, zs⟩ := Z
  clear hZ
  cases zs with
  | none =>
    dsimp only at cF ⊢
    have cF2 : Calls Try.prog 28 #[.pointer (some ⟨w.heap.size, 0, none⟩), .slice pp l.length cp, .func (.func 29) #[.pointer (some ⟨w.heap.size, 0, none⟩)] #[], .int .i64 b] (w.alloc rowO) fun r w1 => r = .returned (.tuple #[.int .i64 er, .int .i64 (who : Int)]) ∧ w1.cell? ⟨w.heap.size, 3, none⟩ = some nilS ∧ w1.cell? ⟨w.heap.size, 2, none⟩ = some (.int .i64 0) ∧ Hid (Below w.heap.size w w1) :=
      cF.mono fun r w1 ⟨h0, hK, hC⟩ => ⟨h0, hC.c 3 (by decide), hC.c 2 (by decide), ⟨hB.trans (hK.below (Nat.le_refl _) (by omega))⟩⟩
    clear cF
    go_enter Try.func10, Try.ntmps10
    go_wp2_with (go_at_call 28; refine cF2.mono ?_; rintro _ w1 ⟨rfl, c3, c2, HB⟩)
    go_quiet (fail)
    go_wp2_with fail
    exact bodyPost_ret (v := .tuple #[nilS, .int .i64 0, .int .i64 er, .int .i64 (who : Int)]) (by simp [results, Try.results10, go_sem]) rfl ⟨_, rfl, World.ownsRow_nil _ _ _ 1, tdr HB.out⟩
  | some p =>
    obtain ⟨s, c⟩ := p
    dsimp only at cF ⊢
    have cF2 : Calls Try.prog 28 #[.pointer (some ⟨w.heap.size, 0, none⟩), .slice pp l.length cp, .func (.func 29) #[.pointer (some ⟨w.heap.size, 0, none⟩)] #[], .int .i64 b] (w.alloc rowO) fun r w1 => r = .returned (.tuple #[.int .i64 er, .int .i64 (who : Int)]) ∧ ∃ p3 c3, w1.cell? ⟨w.heap.size, 3, none⟩ = some (.slice p3 s.off.length c3) ∧ w1.cell? ⟨w.heap.size, 2, none⟩ = some (.int .i64 c) ∧ Hid (Below w.heap.size w w1 ∧ ZOwn w1 w.heap.size (.slice p3 s.off.length c3) s.off) :=
      cF.mono fun r w1 ⟨h0, hK, hS⟩ => by
        obtain ⟨v, hC, _, h2, hz⟩ := hS.z
        obtain ⟨p3, c3, e3, _⟩ := hz.shape
        have q3 := hC.c 3 (by decide)
        have q2 := hC.c 2 (by decide)
        rw [e3] at q3 hz
        rw [h2] at q2
        exact ⟨h0, p3, c3, q3, q2, ⟨hB.trans (hK.below (Nat.le_refl _) (by omega)), own_mono hz (by omega)⟩⟩
    clear cF
    go_enter Try.func10, Try.ntmps10
    go_wp2_with (go_at_call 28; refine cF2.mono ?_; rintro _ w1 ⟨rfl, p3, c3, q3, q2, HB⟩)
    go_quiet (fail)
    go_wp2_with fail
    exact bodyPost_ret (v := .tuple #[.slice p3 s.off.length c3, .int .i64 c, .int .i64 er, .int .i64 (who : Int)]) (by simp [results, Try.results10, go_sem]) rfl ⟨_, rfl, own_same HB.out.2 fun _ _ => rfl, tdr HB.out.1⟩
end Go.Proofs.Ytjdinlgbfpkodaa

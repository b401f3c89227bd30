/- The law LayFresh: its calls, in one form. -/
import Derived.Test.YtjdinlgbfpkodaaLFr3
namespace Go.Proofs.Ytjdinlgbfpkodaa
open Go.ChangeShapes Go.WideShapes Go.ChangeAt Go.RowKit Go.Shelf

structure FC (w : World) (pp : Option Addr) (cp : Nat) (l : List Rm) (b : Int) (off : List Int) (n er : Int) (who : Nat) (GA : List Rm) (ge : Int) (PA : List Rm) (pn pe : Int) : Prop where
  rooms : ∀ {W : World} {rs : List (Nat × Row)}, FE w W pp l rs → Calls Try.prog 11 #[.slice pp l.length cp] W fun r w' => ∃ p c, r = .returned (.slice p l.length c) ∧ SlR w' p w'.heap.size l ∧ FE w w' pp l rs
  place : ∀ (C : Nat) {W : World} {rs : List (Nat × Row)} (px : Option Addr) (cx : Nat), FE w W pp l rs → SlR W px W.heap.size l → Calls Try.prog 10 #[.slice px l.length cx, .int .i64 b] W fun r w' => ∃ p c, r = .returned (.tuple #[.slice p off.length c, .int .i64 n, .int .i64 er, .int .i64 (who : Int)]) ∧ FE w w' pp l ((C, zR p c off.length off) :: rs)
  refPlace : ∀ (C : Nat) {W : World} {rs : List (Nat × Row)}, FE w W pp l rs → Calls Try.prog 15 #[.slice pp l.length cp, .int .i64 b] W fun r w' => ∃ p c, r = .returned (.tuple #[.slice p off.length c, .int .i64 n, .int .i64 er, .int .i64 (who : Int)]) ∧ FE w w' pp l ((C, zR p c off.length off) :: rs)
  ints : ∀ {W : World} {rs : List (Nat × Row)} (px pw : Option Addr) (cw : Nat) {c : Nat}, FE w W pp l rs → (c, zR pw cw off.length off) ∈ rs → SlR W px W.heap.size l → Calls Try.prog 18 #[.slice pw off.length cw] W fun r w' => ∃ p c, r = .returned (.slice p off.length c) ∧ SlZ w' p w'.heap.size off ∧ SlR w' px w'.heap.size l ∧ FE w w' pp l rs
  gaps : ∀ (C : Nat) {W : World} {rs : List (Nat × Row)} (px py : Option Addr) (cx cy : Nat), FE w W pp l rs → SlR W px W.heap.size l → SlZ W py W.heap.size off → Calls Try.prog 20 #[.slice px l.length cx, .slice py off.length cy, .int .i64 n] W fun r w' => ∃ p c, r = .returned (.tuple #[.slice p GA.length c, .int .i64 ge]) ∧ FE w w' pp l ((C, rR p c GA.length GA) :: rs)
  plain : ∀ (C : Nat) {W : World} {rs : List (Nat × Row)} (px py : Option Addr) (cx cy : Nat), FE w W pp l rs → SlR W px W.heap.size l → SlZ W py W.heap.size off → Calls Try.prog 19 #[.slice px l.length cx, .slice py off.length cy, .int .i64 n] W fun r w' => ∃ p c, r = .returned (.tuple #[.slice p PA.length c, .int .i64 pn, .int .i64 pe]) ∧ FE w w' pp l ((C, rR p c PA.length PA) :: rs)
  refGaps : ∀ (C : Nat) {W : World} {rs : List (Nat × Row)} (pw : Option Addr) (cw : Nat) {c : Nat}, FE w W pp l rs → (c, zR pw cw off.length off) ∈ rs → Calls Try.prog 22 #[.slice pp l.length cp, .slice pw off.length cw, .int .i64 n] W fun r w' => ∃ p c, r = .returned (.tuple #[.slice p GA.length c, .int .i64 ge]) ∧ FE w w' pp l ((C, rR p c GA.length GA) :: rs)
  refPlain : ∀ (C : Nat) {W : World} {rs : List (Nat × Row)} (pw : Option Addr) (cw : Nat) {c : Nat}, FE w W pp l rs → (c, zR pw cw off.length off) ∈ rs → Calls Try.prog 23 #[.slice pp l.length cp, .slice pw off.length cw, .int .i64 n] W fun r w' => ∃ p c, r = .returned (.tuple #[.slice p PA.length c, .int .i64 pn, .int .i64 pe]) ∧ FE w w' pp l ((C, rR p c PA.length PA) :: rs)
  ol : off.length ≤ 8796093021952
  gl : GA.length ≤ 8796093021953
  pl : PA.length ≤ 8796093021952
theorem fc_mk (l : List Rm) (pp : Option Addr) (cp : Nat) (b : Int) (w : World) (hl : l.length ≤ 8796093021952) (hx : ∀ x ∈ l, x.ok) :
    FC w pp cp l b (placeZ l b).off (placeZ l b).n (placeZ l b).er (placeZ l b).who (gapsZ l (placeZ l b).off (placeZ l b).n).1 (gapsZ l (placeZ l b).off (placeZ l b).n).2 (plainZ l (placeZ l b).off (placeZ l b).n).1 (plainZ l (placeZ l b).off (placeZ l b).n).2.1 (plainZ l (placeZ l b).off (placeZ l b).n).2.2 where
  rooms := fun {W rs} h => (rooms_any l pp cp W h.up hl).mono fun r w' ⟨v, h0, hO, hb⟩ => by
    obtain ⟨p, c, rfl, s⟩ := hO.sl
    exact ⟨p, c, h0, s, h.keep hb⟩
  place := fun C {W rs} px cx h hs => (Place_any l px cx b W hs hl hx).mono fun r w' ⟨v, h0, hO, hb⟩ => by
    obtain ⟨p, c, rfl, s⟩ := hO.sl
    exact ⟨p, c, h0, h.add C (r := zR p c _ _) hO hb⟩
  refPlace := fun C {W rs} h => (refPlace_any l pp cp b W h.up hl hx).mono fun r w' ⟨v, h0, hO, hb⟩ => by
    obtain ⟨p, c, rfl, s⟩ := hO.sl
    exact ⟨p, c, h0, h.add C (r := zR p c _ _) hO hb⟩
  ints := fun {W rs} px pw cw {c} h hm hs => (ints_any _ pw cw W (h.z hm) (by have := placeZ_len l b; omega)).mono fun r w' ⟨v, h0, hO, hb⟩ => by
    obtain ⟨p, c, rfl, s⟩ := hO.sl
    exact ⟨p, c, h0, s, hs.up hb, h.keep hb⟩
  gaps := fun C {W rs} px py cx cy h h1 h2 => (Gaps_any l _ px py cx cy _ W h1 h2 hl (by have := placeZ_len l b; omega) hx (placeZ_off l b hx)).mono fun r w' ⟨v, h0, hO, hb⟩ => by
    obtain ⟨p, c, rfl, s⟩ := hO.sl
    exact ⟨p, c, h0, h.add C (r := rR p c _ _) hO hb⟩
  plain := fun C {W rs} px py cx cy h h1 h2 => (Plain_any l _ px py cx cy _ W h1 h2 hl (by have := placeZ_len l b; omega) hx (placeZ_off l b hx)).mono fun r w' ⟨v, h0, hO, hb⟩ => by
    obtain ⟨p, c, rfl, s⟩ := hO.sl
    exact ⟨p, c, h0, h.add C (r := rR p c _ _) hO hb⟩
  refGaps := fun C {W rs} pw cw {c} h h2 => (refGaps_any l _ pp pw cp cw _ W h.up (h.z h2) hl hx (placeZ_off l b hx)).mono fun r w' ⟨v, h0, hO, hb⟩ => by
    obtain ⟨p, c, rfl, s⟩ := hO.sl
    exact ⟨p, c, h0, h.add C (r := rR p c _ _) hO hb⟩
  refPlain := fun C {W rs} pw cw {c} h h2 => (refPlain_any l _ pp pw cp cw _ W h.up (h.z h2) hl hx (placeZ_off l b hx)).mono fun r w' ⟨v, h0, hO, hb⟩ => by
    obtain ⟨p, c, rfl, s⟩ := hO.sl
    exact ⟨p, c, h0, h.add C (r := rR p c _ _) hO hb⟩
  ol := by have := placeZ_len l b; omega
  gl := by have := gapsZ_len l (placeZ l b).off (placeZ l b).n; omega
  pl := by have := plainZ_len l (placeZ l b).off (placeZ l b).n; omega
theorem fe_sameInts {w W : World} {pp : Option Addr} {l : List Rm} {rs : List (Nat × Row)} (L : List Int) (pa pb : Option Addr) (ca cb c c' : Nat) (h : FE w W pp l rs) (h1 : (c, zR pa ca L.length L) ∈ rs) (h2 : (c', zR pb cb L.length L) ∈ rs) (hl : L.length ≤ 8796093021952) : Calls Try.prog 16 #[.slice pa L.length ca, .slice pb L.length cb] W fun r w' => r = .returned (.bool true) ∧ FE w w' pp l rs :=
  (sameInts_self L pa pb ca cb W (h.z h1).row (h.z h2).row (by omega)).mono fun r w' ⟨h0, n, hn⟩ => ⟨h0, by rw [hn]; exact h.drewN n⟩
theorem fe_sameRooms {w W : World} {pp : Option Addr} {l : List Rm} {rs : List (Nat × Row)} (L : List Rm) (pa pb : Option Addr) (ca cb c c' : Nat) (h : FE w W pp l rs) (h1 : (c, rR pa ca L.length L) ∈ rs) (h2 : (c', rR pb cb L.length L) ∈ rs) (hl : L.length ≤ 8796093021953) : Calls Try.prog 24 #[.slice pa L.length ca, .slice pb L.length cb] W fun r w' => r = .returned (.bool true) ∧ FE w w' pp l rs :=
  (sameRooms_self L pa pb ca cb W (h.r h1).row (h.r h2).row hl).mono fun r w' ⟨h0, n, hn⟩ => ⟨h0, by rw [hn]; exact h.drewN n⟩
theorem fe_marked {w W : World} {pp : Option Addr} {l : List Rm} {rs : List (Nat × Row)} (n : Nat) (m : Int) (pa pb : Option Addr) (ca cb c c' : Nat) (h : FE w W pp l rs) (h1 : (c, zR pa ca n (List.replicate n m)) ∈ rs) (h2 : (c', zR pb cb (n + 1) (List.replicate n m ++ [m])) ∈ rs) (hl : n ≤ 8796093021952) : Calls Try.prog 26 #[.slice pa n ca, .slice pb (n + 1) cb, .int .i64 m] W fun r w' => r = .returned (.bool true) ∧ FE w w' pp l rs := by
  have h3 := (h.z h2).row
  rw [← List.replicate_succ'] at h3
  exact (marked_any n m pa pb ca cb W (h.z h1).row h3 (by omega)).mono fun r w' ⟨h0, n, hn⟩ => ⟨h0, by rw [hn]; exact h.drewN n⟩
theorem fe_sized {w W : World} {pp : Option Addr} {l : List Rm} {rs : List (Nat × Row)} (n : Nat) (m : Int) (pa pb : Option Addr) (ca cb c c' : Nat) (h : FE w W pp l rs) (h1 : (c, rR pa ca n (List.replicate n ⟨m, 0⟩)) ∈ rs) (h2 : (c', rR pb cb (n + 1) (List.replicate n ⟨m, 0⟩ ++ [⟨m, 0⟩])) ∈ rs) (hl : n ≤ 8796093021953) : Calls Try.prog 27 #[.slice pa n ca, .slice pb (n + 1) cb, .int .i64 m] W fun r w' => r = .returned (.bool true) ∧ FE w w' pp l rs := by
  have h3 := (h.r h2).row
  rw [← List.replicate_succ'] at h3
  exact (sized_any n m pa pb ca cb W (h.r h1).row h3 hl).mono fun r w' ⟨h0, n, hn⟩ => ⟨h0, by rw [hn]; exact h.drewN n⟩
end Go.Proofs.Ytjdinlgbfpkodaa

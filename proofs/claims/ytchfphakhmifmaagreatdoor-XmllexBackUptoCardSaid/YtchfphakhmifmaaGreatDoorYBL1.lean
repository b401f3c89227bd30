/- The law XmllexBack: its walks. -/
import Derived.Test.YtchfphakhmifmaaGreatDoorYB9
import Derived.Test.YtchfphakhmifmaaGreatDoorXI
namespace Go.Proofs.YtchfphakhmifmaaGreatDoor
open Go.ChangeShapes Go.WideShapes Go.ChangeAt Go.RowKit Go.Shelf Go.Lib

theorem hidm {p : Prop} (h : p) : Hid p := h
theorem sm_l : ∀ {us : List Tok} {ts : List IT}, Sm us ts → sameL (us.map Tok.it) ts false = true
  | [], [], _ => rfl
  | u :: us, t :: ts, h => by
    obtain ⟨h1, h2, h3, h4⟩ := h
    have e : sameT u.it t false = true := by unfold sameT Tok.it; simp [h1, h2, h3]
    rw [List.map_cons, sameL, e, sm_l h4]; rfl
  | [], _ :: _, h => absurd h id
  | _ :: _, [], h => absurd h id
theorem sm_r : ∀ {us : List Tok} {ts : List IT}, Sm us ts → sameL ts (us.map Tok.it) false = true
  | [], [], _ => rfl
  | u :: us, t :: ts, h => by
    obtain ⟨h1, h2, h3, h4⟩ := h
    have e : sameT t u.it false = true := by unfold sameT Tok.it; simp [h1, h2, h3]
    rw [List.map_cons, sameL, e, sm_r h4]; rfl
  | [], _ :: _, h => absurd h id
  | _ :: _, [], h => absurd h id
/-- What a call needs of a world behind the first one. -/
structure BW (w W : World) : Prop where
  bel : Below w.heap.size w W
  en : Env W
  sh : ShpTab W
  h7 : 7 ≤ W.heap.size
theorem BW.go {w W W' : World} (h : BW w W) (hb : Below W.heap.size W W') : BW w W' :=
  ⟨h.bel.trans (hb.mono h.bel.size), h.en.below hb h.h7, h.sh.below hb h.h7, Nat.le_trans h.h7 hb.size⟩
theorem toks_call {S : ByteArray} {us : List Tok} (h : toksN S = (us, none)) {w W : World} (b : BW w W) :
    Calls Tryz.prog 19 #[.string S] W fun e W' => ∃ pu cu, e = .returned (.tuple #[.slice pu us.length cu, .int .i64 0, .int .i64 0]) ∧ Hid (BW w W') ∧ Hid (IRow W' pu W'.heap.size (us.map Tok.it)) ∧ Hid (Below W.heap.size W W') := by
  refine (Tokens_any S W b.en b.h7 (by have := (toks_ok h).1; omega)).mono ?_
  intro e W' hq
  unfold TksPost at hq
  obtain ⟨hb, hq⟩ := hq
  rw [h] at hq
  obtain ⟨v, rfl, hr⟩ := hq
  obtain ⟨pp, cp, rfl, hi⟩ := hr.irow (Nat.le_refl _)
  exact ⟨pp, cp, rfl, b.go hb, hi, hb⟩
theorem toks_fail {S : ByteArray} {us : List Tok} {er p : Nat} (h : toksN S = (us, some (er, p))) (hs : S.size ≤ 9223372036854775807) {w W : World} (b : BW w W) :
    Calls Tryz.prog 19 #[.string S] W fun e W' => e = .returned (.tuple #[.slice none 0 0, .int .i64 (er : Int), .int .i64 (p : Int)]) ∧ Hid (BW w W') := by
  refine (Tokens_any S W b.en b.h7 hs).mono ?_
  intro e W' hq
  unfold TksPost at hq
  obtain ⟨hb, hq⟩ := hq
  rw [h] at hq
  exact ⟨hq, b.go hb⟩
theorem print_call {ts : List IT} {T : List Nat} {er n : Nat} (h : prZ ts 0 (-1) [] = (T, er, n)) (hl : ts.length ≤ 281474976710656) (hok : ∀ t ∈ ts, t.nm.size ≤ 16777216 ∧ t.vl.size ≤ 16777216) {pp : Option Addr} {cp : Nat} {w W : World} (b : BW w W) (hr : IRow W pp W.heap.size ts) :
    Calls Tryz.prog 18 #[.slice pp ts.length cp] W fun e W' => e = .returned (.tuple #[.string (sOf T), .int .i64 (er : Int), .int .i64 (n : Int)]) ∧ Hid (BW w W') ∧ Hid (Below W.heap.size W W') := by
  refine (Print_any pp cp ts W hr hl hok b.en b.sh b.h7).mono ?_
  rintro e W' ⟨rfl, hb⟩
  rw [h]
  exact ⟨rfl, b.go hb, hb⟩
theorem same_call {a b : List IT} (h : sameL a b false = true) (hl : a.length ≤ 281474976710656) {pa pb : Option Addr} {ca cb : Nat} {w W : World} (B : BW w W) (ha : IRow W pa W.heap.size a) (hb : IRow W pb W.heap.size b) :
    Calls Tryz.prog 20 #[.slice pa a.length ca, .slice pb b.length cb, .bool false] W fun e W' => e = .returned (.bool true) ∧ Hid (BW w W') ∧ Hid (Below W.heap.size W W') := by
  refine (same_any pa pb ca cb W.heap.size W.heap.size a b false W ha hb hl).mono ?_
  rintro e W' ⟨rfl, hb⟩
  rw [h]
  exact ⟨rfl, B.go hb, hb⟩
theorem reads_call {w W : World} (b : BW w W) : Calls Tryz.prog 17 #[] W fun e W' => e = .returned (.bool true) ∧ Hid (BW w W') := by
  refine (reads_any W b.en b.sh b.h7).mono ?_
  rintro e W' ⟨rfl, hb⟩
  exact ⟨rfl, b.go hb⟩
theorem IRow.bw {w W : World} {pp : Option Addr} {ts : List IT} (h : IRow w pp w.heap.size ts) (b : BW w W) : IRow W pp W.heap.size ts := h.up b.bel
end Go.Proofs.YtchfphakhmifmaaGreatDoor

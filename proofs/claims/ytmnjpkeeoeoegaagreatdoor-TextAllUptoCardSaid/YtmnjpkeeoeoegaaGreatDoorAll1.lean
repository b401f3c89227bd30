/- The law TextAll: checks, entities, quotes. -/
import Derived.Test.YtmnjpkeeoeoegaaGreatDoorRef18
import Derived.Test.YtmnjpkeeoeoegaaGreatDoorRef14
import Derived.Test.YtmnjpkeeoeoegaaGreatDoorRef7
import Derived.Test.YtmnjpkeeoeoegaaGreatDoorRef4
namespace Go.Proofs.YtmnjpkeeoeoegaaGreatDoor
open Go.ChangeShapes Go.WideShapes Go.ChangeAt Go.RowKit

theorem upB {a b c : World} (HB : Below a.heap.size a b) (h : Below b.heap.size b c) : Below a.heap.size a c := HB.trans (h.mono HB.size)
set_option maxRecDepth 100000 in
set_option maxHeartbeats 4000000 in
theorem lchecks (s : ByteArray) (hs : s.size ≤ 1048576) (w : World) : Calls Tryz.prog 4 #[.string s] w fun e w' => e = .returned (.bool true) ∧ Below w.heap.size w w' := by
  have a1 := fun w => Check_all s w (by omega)
  have a2 := fun w => rCheck s w (by omega)
  have a3 := fun w => Chars_all s w (by omega)
  have a4 := fun w => rChars s w (by omega)
  have a5 := fun w => XMLName_any s (by omega) w
  have a6 := fun w => rXMLName s (by omega) w
  have a7 := fun w => Symbol_any s (by omega) w
  have a8 := fun w => rSymbol s (by omega) w
  have a9 := fun w => Blank_any s (by omega) w
  have b1 := fun w => rBlank s (by omega) w
  have b2 := fun w => Trim_any s (by omega) w
  have b3 := fun w => rTrim s (by omega) w
  clear hs
  generalize faultN anyB s = p at a1 a2
  generalize faultN xmlB s = q at a3 a4
  obtain ⟨p1, p2⟩ := p
  obtain ⟨q1, q2⟩ := q
  simp only at a1 a2 a3 a4
  generalize xmlNameB s = x at a5 a6
  generalize symbolB s = y at a7 a8
  generalize blankB s = z at a9 b1
  generalize trimN s = T at b2 b3
  have HB := Below.refl w.heap.size w
  go_enter Tryz.func4, Tryz.ntmps4
  go_wp2_with (first
    | (go_at_call 7; refine (a1 _).mono ?_; rintro e w1 ⟨rfl, hb1⟩; have HB := upB HB hb1; clear hb1)
    | (go_at_call 8; refine (a2 _).mono ?_; rintro e w1 ⟨rfl, hb1⟩; have HB := upB HB hb1; clear hb1)
    | (go_at_call 9; go_in)
    | (go_at_call 10; refine (a3 _).mono ?_; rintro e w1 ⟨rfl, hb1⟩; have HB := upB HB hb1; clear hb1)
    | (go_at_call 11; refine (a4 _).mono ?_; rintro e w1 ⟨rfl, hb1⟩; have HB := upB HB hb1; clear hb1)
    | (go_at_call 12; refine (a5 _).mono ?_; rintro e w1 ⟨rfl, hw1⟩; subst w1)
    | (go_at_call 13; refine (a6 _).mono ?_; rintro e w1 ⟨rfl, hb1⟩; have HB := upB HB hb1; clear hb1)
    | (go_at_call 14; refine (a7 _).mono ?_; rintro e w1 ⟨rfl, hw1⟩; subst w1)
    | (go_at_call 15; refine (a8 _).mono ?_; rintro e w1 ⟨rfl, hb1⟩; have HB := upB HB hb1; clear hb1)
    | (go_at_call 16; refine (a9 _).mono ?_; rintro e w1 ⟨rfl, hb1⟩; have HB := upB HB hb1; clear hb1)
    | (go_at_call 17; refine (b1 _).mono ?_; rintro e w1 ⟨rfl, hw1⟩; subst w1)
    | (go_at_call 18; refine (b2 _).mono ?_; rintro e w1 ⟨rfl, hb1⟩; have HB := upB HB hb1; clear hb1)
    | (go_at_call 19; refine (b3 _).mono ?_; rintro e w1 ⟨rfl, hw1⟩; subst w1))
  all_goals go_ret
  all_goals exact ⟨rfl, HB⟩
set_option maxRecDepth 100000 in
set_option maxHeartbeats 4000000 in
theorem lentities (s : ByteArray) (hs : s.size ≤ 1048576) (w : World) : Calls Tryz.prog 5 #[.string s] w fun e w' => e = .returned (.bool true) ∧ Below w.heap.size w w' := by
  have a1 := fun w => Unescape_any s w (by omega)
  have a2 := fun w => rUnescape s w (by omega)
  have a3 := fun w => Escape_any s false w (by omega)
  have a4 := fun w => rEscape s false w (by omega)
  have a5 := fun w => Escape_any s true w (by omega)
  have a6 := fun w => rEscape s true w (by omega)
  clear hs
  generalize uneN s = p at a1 a2
  obtain ⟨p1, p2, p3⟩ := p
  simp only at a1 a2
  generalize sOf p1 = P at a1 a2
  generalize sOf (escL false (lOf s)) = E at a3 a4
  generalize sOf (escL true (lOf s)) = F at a5 a6
  have HB := Below.refl w.heap.size w
  go_enter Tryz.func5, Tryz.ntmps5
  go_wp2_with (first
    | (go_at_call 20; refine (a1 _).mono ?_; rintro e w1 ⟨rfl, hb1⟩; have HB := upB HB hb1; clear hb1)
    | (go_at_call 21; refine (a2 _).mono ?_; rintro e w1 ⟨rfl, hb1⟩; have HB := upB HB hb1; clear hb1)
    | (go_at_call 9; go_in)
    | (go_at_call_of 22 (Value.bool false); refine (a3 _).mono ?_; rintro e w1 ⟨rfl, hb1⟩; have HB := upB HB hb1; clear hb1)
    | (go_at_call_of 23 (Value.bool false); refine (a4 _).mono ?_; rintro e w1 ⟨rfl, hb1⟩; have HB := upB HB hb1; clear hb1)
    | (go_at_call_of 22 (Value.bool true); refine (a5 _).mono ?_; rintro e w1 ⟨rfl, hb1⟩; have HB := upB HB hb1; clear hb1)
    | (go_at_call_of 23 (Value.bool true); refine (a6 _).mono ?_; rintro e w1 ⟨rfl, hb1⟩; have HB := upB HB hb1; clear hb1))
  all_goals go_ret
  all_goals exact ⟨rfl, HB⟩
set_option maxRecDepth 100000 in
set_option maxHeartbeats 4000000 in
theorem lquotes (s : ByteArray) (hs : s.size ≤ 1048576) (w : World) : Calls Tryz.prog 6 #[.string s] w fun e w' => e = .returned (.bool true) ∧ Below w.heap.size w w' := by
  have a1 := fun w => Unquote_any s w (by omega)
  have a2 := fun w => rUnquote s w (by omega)
  have a3 := fun w => Quote_any s w (by omega)
  have a4 := fun w => rQuote s w (by omega)
  have a5 := fun w => Unhex_any s w (by omega)
  have a6 := fun w => rUnhex s w (by omega)
  have a7 := fun w => Hex_any s w (by omega)
  have a8 := fun w => rHex s w (by omega)
  clear hs
  generalize unqN s = p at a1 a2
  obtain ⟨p1, p2, p3⟩ := p
  generalize unhN s = q at a5 a6
  obtain ⟨q1, q2, q3⟩ := q
  simp only at a1 a2 a5 a6
  generalize sOf p1 = P at a1 a2
  generalize sOf q1 = Q at a5 a6
  generalize sOf (quoteL (lOf s)) = E at a3 a4
  generalize sOf (hexL (lOf s)) = F at a7 a8
  have HB := Below.refl w.heap.size w
  go_enter Tryz.func6, Tryz.ntmps6
  go_wp2_with (first
    | (go_at_call 24; refine (a1 _).mono ?_; rintro e w1 ⟨rfl, hb1⟩; have HB := upB HB hb1; clear hb1)
    | (go_at_call 25; refine (a2 _).mono ?_; rintro e w1 ⟨rfl, hb1⟩; have HB := upB HB hb1; clear hb1)
    | (go_at_call 9; go_in)
    | (go_at_call 26; refine (a3 _).mono ?_; rintro e w1 ⟨rfl, hb1⟩; have HB := upB HB hb1; clear hb1)
    | (go_at_call 27; refine (a4 _).mono ?_; rintro e w1 ⟨rfl, hb1⟩; have HB := upB HB hb1; clear hb1)
    | (go_at_call 28; refine (a5 _).mono ?_; rintro e w1 ⟨rfl, hb1⟩; have HB := upB HB hb1; clear hb1)
    | (go_at_call 29; refine (a6 _).mono ?_; rintro e w1 ⟨rfl, hb1⟩; have HB := upB HB hb1; clear hb1)
    | (go_at_call 30; refine (a7 _).mono ?_; rintro e w1 ⟨rfl, hb1⟩; have HB := upB HB hb1; clear hb1)
    | (go_at_call 31; refine (a8 _).mono ?_; rintro e w1 ⟨rfl, hb1⟩; have HB := upB HB hb1; clear hb1))
  all_goals go_ret
  all_goals exact ⟨rfl, HB⟩
end Go.Proofs.YtmnjpkeeoeoegaaGreatDoor

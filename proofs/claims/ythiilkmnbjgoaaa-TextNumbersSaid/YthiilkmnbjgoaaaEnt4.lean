/- The contracts of named, numberOf and AppendRune. -/
import Derived.Test.YthiilkmnbjgoaaaEnt3
import Derived.Test.YthiilkmnbjgoaaaQuo6
namespace Go.Proofs.Ythiilkmnbjgoaaa
open Go.ChangeShapes Go.WideShapes Go.ChangeAt Go.RowKit
open Go.Maps
open Go.WideMaps

theorem name_at (l : List UInt8) (b : Nat) (h : nameB l = some b) (c : Int) (hat : namD.atKey (.string l) (.lit (.int .u8 0)) = .lit (.int .u8 c)) : c = (b : Int) := by
  rw [at_name l b h] at hat
  injection hat with h1
  injection h1 with _ h2
  exact h2.symm
theorem zero8 (w : World) : (zeroValue 5).run Try.prog w = .ok (.int .u8 0) w := by kernel_rfl
theorem bodyS_size (s : ByteArray) (a : Nat) : (bodyS s a).size = fstN (s.extract a s.size) 59 ∧ (a ≤ s.size → a + (bodyS s a).size ≤ s.size ∧ (endB s a = true → a + (bodyS s a).size < s.size)) := by
  have h1 := fst_le (s.extract a s.size) 59
  have h2 : (s.extract a s.size).size = s.size - a := size_ext s _ _ (Nat.le_refl _)
  have h3 : (bodyS s a).size = fstN (s.extract a s.size) 59 := by unfold bodyS; rw [size_ext _ 0 _ h1]; omega
  refine ⟨h3, fun ha => ⟨by omega, fun he => ?_⟩⟩
  unfold endB at he
  simp at he
  omega
set_option maxHeartbeats 1000000 in
theorem named_no (g m : Nat) (s : ByteArray) (a : Nat) (v : Value) (L : List Nat) (w : World) (h : Rd w g s a v L (some (.map (some m)))) (hN : Names w m) (ha : a + 1 ≤ s.size) (hs : s.size ≤ 140737488355328) (hno : endB s (a + 1) = false ∨ nameB (bodyS s (a + 1)).data.toList = none) :
    Calls Try.prog 37 #[.pointer (some ⟨g, 0, none⟩)] w fun r w' => r = .returned (.bool false) ∧ ∃ n, w' = w.drewN n := by
  have hb := (bodyS_size s (a + 1)).2 ha
  have CB := fun w h => body_any g s ⟨#[38]⟩ a v L (some (.map (some m))) w h ha hs
  rw [show (ByteArray.mk #[38]).size = 1 from rfl] at CB
  have hkey := keyOf_string_mk (P := Try.prog) (k := 9) Try.underlying9 (s := bodyS s (a + 1)) (by unfold maxLen; omega)
  have hh := has_name (bodyS s (a + 1)).data.toList
  generalize bodyS s (a + 1) = B at CB hkey hh hno
  generalize endB s (a + 1) = E at CB hno
  have hN' : ∀ n, Names (w.drewN n) m := fun n => hN
  have c3 := h.h3
  go_enter Try.func37, Try.ntmps37
  cases E
  · go_wp2_with (first | (go_at_call 45; refine (CB _ h).mono ?_; rintro e w1 ⟨rfl, n1, rfl⟩) | (at_lookup; refine wpList_lookup_own_ok_int _ rfl _ _ 54 rfl 9 5 .u8 strKeyed Try.underlying54 Try.underlying5 (zero8 _) m 5 _ rfl (hN' n1) _ _ rfl hkey ?_; intro c hat hwc))
    go_ret
    exact ⟨rfl, n1, rfl⟩
  · have hnn : nameB B.data.toList = none := by rcases hno with h | h; cases h; exact h
    rw [hnn] at hh
    have hh : Maps.has namD (.string B.data.toList) = false := hh
    go_wp2_with (first | (go_at_call 45; refine (CB _ h).mono ?_; rintro e w1 ⟨rfl, n1, rfl⟩) | (at_lookup; refine wpList_lookup_own_ok_int _ rfl _ _ 54 rfl 9 5 .u8 strKeyed Try.underlying54 Try.underlying5 (zero8 _) m 5 _ rfl (hN' n1) _ _ rfl hkey ?_; intro c hat hwc))
    go_ret
    exact ⟨rfl, n1, rfl⟩
set_option maxHeartbeats 1000000 in
theorem named_yes (g m : Nat) (s : ByteArray) (a : Nat) (v : Value) (L : List Nat) (w : World) (h : Rd w g s a v L (some (.map (some m)))) (hN : Names w m) (ha : a + 1 ≤ s.size) (hs : s.size ≤ 140737488355328) (hl : L.length + 1 ≤ 140737488355328) (b : Nat) (he : endB s (a + 1) = true) (hb : nameB (bodyS s (a + 1)).data.toList = some b) :
    Calls Try.prog 37 #[.pointer (some ⟨g, 0, none⟩)] w fun r w' => r = .returned (.bool true) ∧ (∃ v', Rd w' g s (a + (1 + (bodyS s (a + 1)).size + 1)) v' (L ++ [b]) (some (.map (some m)))) ∧ Below g w w' := by
  have hbz := (bodyS_size s (a + 1)).2 ha
  have CB := fun w h => body_any g s ⟨#[38]⟩ a v L (some (.map (some m))) w h ha hs
  rw [show (ByteArray.mk #[38]).size = 1 from rfl, he] at CB
  have hkey := keyOf_string_mk (P := Try.prog) (k := 9) Try.underlying9 (s := bodyS s (a + 1)) (by unfold maxLen; omega)
  have hh := has_name (bodyS s (a + 1)).data.toList
  have hv : Hid (∀ c : Int, namD.atKey (.string (bodyS s (a + 1)).data.toList) (.lit (.int .u8 0)) = .lit (.int .u8 c) → c = (b : Int)) := name_at _ b hb
  rw [hb] at hh
  have hh : Maps.has namD (.string (bodyS s (a + 1)).data.toList) = true := hh
  have hz := hbz.1
  clear hbz he hb
  generalize bodyS s (a + 1) = B at CB hkey hh hv hz ⊢
  have hN' : ∀ n, Names (w.drewN n) m := fun n => hN
  have c3 := h.h3
  have hn : Hid ((1 : Int) + (B.size : Int) + 1 = ((1 + B.size + 1 : Nat) : Int)) := (by show (1 : Int) + (B.size : Int) + 1 = ((1 + B.size + 1 : Nat) : Int); omega)
  go_enter Try.func37, Try.ntmps37
  go_wp2_with (first | (go_at_call 45; refine (CB _ h).mono ?_; rintro e w1 ⟨rfl, n1, rfl⟩) | (at_lookup; refine wpList_lookup_own_ok_int _ rfl _ _ 54 rfl 9 5 .u8 strKeyed Try.underlying54 Try.underlying5 (zero8 _) m 5 _ rfl (hN' n1) _ _ rfl hkey ?_; intro c hat hwc; have hcb : Hid (c = (b : Int)) := hv.out c hat; clear hat) | (go_at_call 40; rw [hn.out, hcb.out]; refine (take_byte g s a (1 + B.size + 1) v L (some (.map (some m))) b _ _ (w.drewN n1) rfl (h.drewN n1) hl (by omega)).mono ?_; rintro e w2 ⟨rfl, ⟨v', hR⟩, hb2⟩))
  go_ret
  exact ⟨rfl, ⟨v', hR⟩, (bdN (Below.refl _ _) _).trans hb2⟩
/-- The number that digits say, from a number on. -/
def numF (base : Nat) : List Nat → Nat → Option Nat
  | [], n => some n
  | c :: r, n => match worth c with
    | some d => if d < base then numF base r (min (n * base + d) 1114112) else none
    | none => none
def numS (base : Nat) (s : ByteArray) : Option Nat := numF base (lOf s) 0
theorem numF_cons (base c : Nat) (r : List Nat) (n : Nat) : numF base (c :: r) n = match worth c with
    | some d => if d < base then numF base r (min (n * base + d) 1114112) else none
    | none => none := by simp only [numF]
theorem drop_ch (s : ByteArray) (k : Nat) (h : k < s.size) : (lOf s).drop k = ch s k :: (lOf s).drop (k + 1) := by
  have h2 : k < (lOf s).length := by rw [lOf_length]; exact h
  rw [List.drop_eq_getElem_cons h2, ch_lOf]
  simp [List.getD, h2]
end Go.Proofs.Ythiilkmnbjgoaaa

/- The document's answer: Encode, begins. -/
import Derived.Test.YtmnjpkeeoeoegaaGreatDoorEnt6
import Derived.Test.YtmnjpkeeoeoegaaGreatDoorRef1
import Derived.Laws.BytesArg
namespace Go.Proofs.YtmnjpkeeoeoegaaGreatDoor
open Go.ChangeShapes Go.WideShapes Go.ChangeAt Go.RowKit

theorem strNums_eq (l : List Int) (M : List Nat) (h : l = M.map Int.ofNat) : strOfNums l = sOf M := by
  subst h
  unfold strOfNums sOf
  simp
theorem convN (W : World) (l : List Int) (n : Nat) (hn : l.length = n) (g : Nat) (hg : W.heap.size = g) (a : Array Value) (ha : a = (l.map (Value.int .u8)).toArray) :
    (convert 45 9 (.slice (some ⟨g, 0, none⟩) n n)).run Tryz.prog (W.alloc (.cells a 5)) = .ok (.string (strOfNums l)) (W.alloc (.cells a 5)) := by
  subst hg ha
  refine run_convert_bytes_arg _ 45 5 Tryz.underlying45 Tryz.underlying5 W.heap.size 0 n n l hn (fun i hi => ?_) 9 Tryz.underlying9
  have : (W.alloc (.cells (l.map (Value.int .u8)).toArray 5)).heap[W.heap.size]? = some (.cells (l.map (Value.int .u8)).toArray 5) := heap_alloc_new W _
  rw [Nat.zero_add]
  unfold World.cell?
  rw [this]
  simp [List.getElem?_eq_getElem (show i < l.length by omega)]
theorem conv1 (W : World) (g : Nat) (x : Int) (hg : W.heap.size = g) : (convert 45 9 (.slice (some ⟨g, 0, none⟩) 1 1)).run Tryz.prog (W.alloc (.cells #[.int .u8 x] 5)) = .ok (.string (strOfNums [x])) (W.alloc (.cells #[.int .u8 x] 5)) := convN W [x] 1 rfl g hg _ rfl
theorem conv2 (W : World) (g : Nat) (x y : Int) (hg : W.heap.size = g) : (convert 45 9 (.slice (some ⟨g, 0, none⟩) 2 2)).run Tryz.prog (W.alloc (.cells #[.int .u8 x, .int .u8 y] 5)) = .ok (.string (strOfNums [x, y])) (W.alloc (.cells #[.int .u8 x, .int .u8 y] 5)) := convN W [x, y] 2 rfl g hg _ rfl
theorem conv3 (W : World) (g : Nat) (x y z : Int) (hg : W.heap.size = g) : (convert 45 9 (.slice (some ⟨g, 0, none⟩) 3 3)).run Tryz.prog (W.alloc (.cells #[.int .u8 x, .int .u8 y, .int .u8 z] 5)) = .ok (.string (strOfNums [x, y, z])) (W.alloc (.cells #[.int .u8 x, .int .u8 y, .int .u8 z] 5)) := convN W [x, y, z] 3 rfl g hg _ rfl
theorem conv4 (W : World) (g : Nat) (x y z t : Int) (hg : W.heap.size = g) : (convert 45 9 (.slice (some ⟨g, 0, none⟩) 4 4)).run Tryz.prog (W.alloc (.cells #[.int .u8 x, .int .u8 y, .int .u8 z, .int .u8 t] 5)) = .ok (.string (strOfNums [x, y, z, t])) (W.alloc (.cells #[.int .u8 x, .int .u8 y, .int .u8 z, .int .u8 t] 5)) := convN W [x, y, z, t] 4 rfl g hg _ rfl
theorem rbel (w : World) (o : Obj) : Below w.heap.size w (w.alloc o) := (Below.refl _ _).alloc (Nat.le_refl _) _
abbrev goodI (n : Int) : Prop := 0 ≤ n ∧ n ≤ 1114111 ∧ (n < 55296 ∨ 57343 < n)
def encI (n : Int) : List Nat := if goodI n then encN n.toNat else []
theorem rsret {a b : ByteArray} (h : a = b) : Ending.returned (.string a) = .returned (.string b) := by rw [h]
theorem encI_good (n : Int) (h0 : 0 ≤ n) (h1 : n ≤ 1114111) (h2 : n < 55296 ∨ 57343 < n) : encI n = encN n.toNat := by unfold encI; rw [if_pos ⟨h0, h1, h2⟩]
theorem encI_bad (n : Int) (h : n < 0 ∨ 1114111 < n ∨ (55296 ≤ n ∧ n ≤ 57343)) : encI n = [] := by
  unfold encI
  rw [if_neg (by unfold goodI; omega)]
theorem cast_ofNat (a : Nat) : Int.ofNat a = (a : Int) := rfl
theorem enc1 (n : Int) (h : 0 ≤ n ∧ n < 128) : strOfNums [n] = sOf (encI n) := by
  rw [encI_good n h.1 (by omega) (by omega)]
  unfold encN
  rw [if_pos (by omega)]
  refine strNums_eq _ _ ?_
  simp only [List.map_cons, List.map_nil, cast_ofNat]
  rw [show ((n.toNat : Nat) : Int) = n by omega]
theorem enc2 (n : Int) (h : 128 ≤ n ∧ n < 2048) : strOfNums [192 + n / 64, 128 + n % 64] = sOf (encI n) := by
  rw [encI_good n (by omega) (by omega) (by omega)]
  unfold encN
  rw [if_neg (by omega), if_pos (by omega)]
  refine strNums_eq _ _ ?_
  simp only [List.map_cons, List.map_nil, cast_ofNat]
  rw [show ((192 + n.toNat / 64 : Nat) : Int) = 192 + n / 64 by omega, show ((128 + n.toNat % 64 : Nat) : Int) = 128 + n % 64 by omega]
theorem enc3 (n : Int) (h : 2048 ≤ n ∧ n < 65536) (h2 : n < 55296 ∨ 57343 < n) : strOfNums [224 + n / 4096, 128 + n / 64 % 64, 128 + n % 64] = sOf (encI n) := by
  rw [encI_good n (by omega) (by omega) h2]
  unfold encN
  rw [if_neg (by omega), if_neg (by omega), if_pos (by omega)]
  refine strNums_eq _ _ ?_
  simp only [List.map_cons, List.map_nil, cast_ofNat]
  rw [show ((224 + n.toNat / 4096 : Nat) : Int) = 224 + n / 4096 by omega, show ((128 + n.toNat / 64 % 64 : Nat) : Int) = 128 + n / 64 % 64 by omega, show ((128 + n.toNat % 64 : Nat) : Int) = 128 + n % 64 by omega]
theorem enc4 (n : Int) (h : 65536 ≤ n ∧ n ≤ 1114111) : strOfNums [240 + n / 262144, 128 + n / 4096 % 64, 128 + n / 64 % 64, 128 + n % 64] = sOf (encI n) := by
  rw [encI_good n (by omega) (by omega) (by omega)]
  unfold encN
  rw [if_neg (by omega), if_neg (by omega), if_neg (by omega)]
  refine strNums_eq _ _ ?_
  simp only [List.map_cons, List.map_nil, cast_ofNat]
  rw [show ((240 + n.toNat / 262144 : Nat) : Int) = 240 + n / 262144 by omega, show ((128 + n.toNat / 4096 % 64 : Nat) : Int) = 128 + n / 4096 % 64 by omega, show ((128 + n.toNat / 64 % 64 : Nat) : Int) = 128 + n / 64 % 64 by omega, show ((128 + n.toNat % 64 : Nat) : Int) = 128 + n % 64 by omega]
theorem enc0 (n : Int) (h : n < 0 ∨ 1114111 < n ∨ (55296 ≤ n ∧ n ≤ 57343)) : (⟨#[]⟩ : ByteArray) = sOf (encI n) := by rw [encI_bad n h]; rfl
theorem rEncode (n : Int) (w : World) : Calls Tryz.prog 59 #[.int .i64 n] w fun e w' => e = .returned (.string (sOf (encI n))) ∧ Below w.heap.size w w' := by
  have c1 := conv1
  have c2 := conv2
  have c3 := conv3
  have c4 := conv4
  have : n < 0 ∨ 1114111 < n ∨ (55296 ≤ n ∧ n ≤ 57343) ∨ (0 ≤ n ∧ n < 128) ∨ (128 ≤ n ∧ n < 2048) ∨ (2048 ≤ n ∧ n < 55296) ∨ (57344 ≤ n ∧ n < 65536) ∨ (65536 ≤ n ∧ n ≤ 1114111) := by omega
  rcases this with h | h | h | h | h | h | h | h
  · have d0 : decide (n < 0) = true := by simp; omega
    go_enter Tryz.func59, Tryz.ntmps59
    go_wp2
    go_ret
    exact ⟨rsret (enc0 n (Or.inl h)), Below.refl _ _⟩
  · have d0 : decide (n < 0) = false := by simp; omega
    have d1 : decide (1114111 < n) = true := by simp; omega
    go_enter Tryz.func59, Tryz.ntmps59
    go_wp2
    go_ret
    exact ⟨rsret (enc0 n (Or.inr (Or.inl h))), Below.refl _ _⟩
  · have d0 : decide (n < 0) = false := by simp; omega
    have d1 : decide (1114111 < n) = false := by simp; omega
    have d2 : decide (55296 ≤ n) = true := by simp; omega
    have d3 : decide (n ≤ 57343) = true := by simp; omega
    go_enter Tryz.func59, Tryz.ntmps59
    go_wp2
    go_ret
    exact ⟨rsret (enc0 n (Or.inr (Or.inr h))), Below.refl _ _⟩
  · have d0 : decide (n < 0) = false := by simp; omega
    have d1 : decide (1114111 < n) = false := by simp; omega
    have d2 : decide (55296 ≤ n) = false := by simp; omega
    go_enter Tryz.func59, Tryz.ntmps59
    go_wp2
    go_ret
    exact ⟨rsret (enc1 n h), rbel _ _⟩
  · have d0 : decide (n < 0) = false := by simp; omega
    have d1 : decide (1114111 < n) = false := by simp; omega
    have d2 : decide (55296 ≤ n) = false := by simp; omega
    go_enter Tryz.func59, Tryz.ntmps59
    go_wp2
    go_ret
    exact ⟨rsret (enc2 n h), rbel _ _⟩
  · have d0 : decide (n < 0) = false := by simp; omega
    have d1 : decide (1114111 < n) = false := by simp; omega
    have d2 : decide (55296 ≤ n) = false := by simp; omega
    go_enter Tryz.func59, Tryz.ntmps59
    go_wp2
    go_ret
    exact ⟨rsret (enc3 n (by omega) (by omega)), rbel _ _⟩
  · have d0 : decide (n < 0) = false := by simp; omega
    have d1 : decide (1114111 < n) = false := by simp; omega
    have d2 : decide (55296 ≤ n) = true := by simp; omega
    have d3 : decide (n ≤ 57343) = false := by simp; omega
    go_enter Tryz.func59, Tryz.ntmps59
    go_wp2
    go_ret
    exact ⟨rsret (enc3 n (by omega) (by omega)), rbel _ _⟩
  · have d0 : decide (n < 0) = false := by simp; omega
    have d1 : decide (1114111 < n) = false := by simp; omega
    have d2 : decide (55296 ≤ n) = true := by simp; omega
    have d3 : decide (n ≤ 57343) = false := by simp; omega
    go_enter Tryz.func59, Tryz.ntmps59
    go_wp2
    go_ret
    exact ⟨rsret (enc4 n h), rbel _ _⟩
theorem str_eq (a b : ByteArray) : (a.toList == b.toList) = decide (a = b) := by
  rw [ByteArray.toList_eq, ByteArray.toList_eq]
  by_cases h : a = b
  · subst h; simp
  · rw [decide_eq_false h, beq_eq_false_iff_ne]
    exact fun e => h (ba_ext e)
theorem rbegins (s t : ByteArray) (w : World) : Calls Tryz.prog 60 #[.string s, .string t] w fun e w' => e = .returned (.bool (decide (t.size ≤ s.size) && decide (s.extract 0 t.size = t))) ∧ w' = w := by
  by_cases h : t.size ≤ s.size
  · have d : decide ((t.size : Int) ≤ (s.size : Int)) = true := by simp; omega
    rw [decide_eq_true h, Bool.true_and]
    go_enter Tryz.func60, Tryz.ntmps60
    go_wp2
    go_ret
    exact ⟨nret (str_eq _ _), rfl⟩
  · have d : decide ((t.size : Int) ≤ (s.size : Int)) = false := by simp; omega
    rw [decide_eq_false h, Bool.false_and]
    go_enter Tryz.func60, Tryz.ntmps60
    go_wp2
    go_ret
    exact ⟨rfl, rfl⟩
end Go.Proofs.YtmnjpkeeoeoegaaGreatDoor

/- The contract of prim.Get. -/
import Derived.Test.YtfhphjgcmbneeaaDoorPJn
namespace Go.Proofs.YtfhphjgcmbneeaaDoor
open Go.ChangeShapes Go.WideShapes Go.ChangeAt Go.RowKit
theorem shiftOf_b (o : Int) (hi : Bool) (w : World) (ho : o = if hi then 1 else 0) : Calls Tryd.prog 52 #[.int .i64 o] w fun e w' => e = .returned (.func (Fn.func 70) #[.agg #[.bool hi]] #[]) ∧ w' = w := by
  cases hi
  · obtain rfl : o = 0 := ho
    exact shiftOf_0 w
  · obtain rfl : o = 1 := ho
    exact shiftOf_1 w
/-- Whatever the order, what comes is told from nil. -/
theorem shiftOf_some (o : Int) (w : World) : Calls Tryd.prog 52 #[.int .i64 o] w fun e w' => (∃ v, e = .returned v) ∧ w' = w := by
  by_cases h : o < 0 ∨ 2 ≤ o
  · exact (shiftOf_out o w h).mono fun e w' ⟨h1, h2⟩ => ⟨⟨_, h1⟩, h2⟩
  · by_cases h0 : o = 0
    · subst h0; exact (shiftOf_0 w).mono fun e w' ⟨h1, h2⟩ => ⟨⟨_, h1⟩, h2⟩
    · obtain rfl : o = 1 := by omega
      exact (shiftOf_1 w).mono fun e w' ⟨h1, h2⟩ => ⟨⟨_, h1⟩, h2⟩
theorem func_some (a b : Array Value) (w : World) : (binOp .eql 106 (.func (Fn.func 70) a b) .nilFunc).run Tryd.prog w = .ok (.bool false) w := by kernel_rfl
theorem func_none (w : World) : (binOp .eql 106 .nilFunc .nilFunc).run Tryd.prog w = .ok (.bool true) w := by kernel_rfl
set_option maxHeartbeats 1000000 in
theorem Get_ok (g off len cap at' : Nat) (p o : Int) (hi : Bool) (s : Nat) (f : Nat → Int) (w : World) (h : KT w)
    (ho : o = if hi then 1 else 0) (hs : sz p = s) (h4 : s = 1 ∨ s = 2 ∨ s = 4 ∨ s = 8) (hf : ∀ j, 0 ≤ f j ∧ f j ≤ 255) (hc : ∀ j, j < s → w.cell? ⟨g, off + (at' + j), none⟩ = some (.int .u8 (f j)))
    (hat : at' + s ≤ len) (hl : len ≤ 9223372036854775807) (hg : g < w.heap.size) :
    Calls Tryd.prog 35 #[.slice (some ⟨g, off, none⟩) len cap, .int .i64 at', .int .i64 p, .int .i64 o] w fun e w' => e = .returned (.tuple #[.int .u64 (wordF s (rd p) (accF hi s f s)), .int .i64 0]) ∧ Below w.heap.size w w' := by
  have hk := kok p
  have hne : Hid (sz p ≠ 0) := by show sz p ≠ 0; omega
  have HO : Hid (o = if hi then 1 else 0) := ho
  clear ho
  have ssp : 0 < (s : Int) := by omega
  have hw1 : decide ((0 : Int) ≤ (at' : Int)) = true := decide_eq_true (by omega)
  have hw2 : decide ((at' : Int) ≤ (len : Int) - (s : Int)) = true := decide_eq_true (by omega)
  have hfn := func_some
  go_enter Tryd.func35, Tryd.ntmps35
  go_wp2_with (first
    | (go_at_call 50; refine (kindOf_any _ _ h).mono ?_; rintro e w1 ⟨rfl, hbl1⟩)
    | (go_at_call 52; refine (shiftOf_b _ hi _ HO.out).mono ?_; rintro e w2 ⟨rfl, rfl⟩)
    | (go_at_call 53; go_in)
    | (go_at_call 54; refine (within_any _ _ _ _ _ _ hl (by omega)).mono ?_; rintro e w2 ⟨rfl, rfl⟩))
  have hB0 : Below (w2.heap.size + 1) (w2.alloc (.cells #[.int .i64 s, .int .i64 (rd p), .int .u64 (nl p), .int .u64 (mn p), .int .u64 (mx p)] 103)) ((w2.alloc (.cells #[.int .i64 s, .int .i64 (rd p), .int .u64 (nl p), .int .u64 (mn p), .int .u64 (mx p)] 103)).alloc (.cells #[.int .i64 s, .int .i64 (rd p), .int .u64 (nl p), .int .u64 (mn p), .int .u64 (mx p)] 103)) := (bel1 _ _).mono (by simp)
  have hz : w.heap.size ≤ w2.heap.size := hbl1.size
  go_loopw [12, 33] (fun b i wr => ∃ k : Nat, k ≤ s ∧ i = .int .i64 k ∧ b = .int .u64 (accF hi s f k) ∧ Below (w2.heap.size + 1) (w2.alloc (.cells #[.int .i64 s, .int .i64 (rd p), .int .u64 (nl p), .int .u64 (mn p), .int .u64 (mx p)] 103)) wr) (fun _ i _ => s - (intOf i).toNat)
  case atStart => exact ⟨0, Nat.zero_le _, rfl, rfl, hB0⟩
  case round =>
    obtain ⟨k, hk', rfl, rfl, HB⟩ := hrel
    have HBs := HB.size
    simp at HBs
    have ac := acc_bd hi s h4 f hf k hk'
    by_cases hlt : k < s
    · have sb := shI_bd hi s k (by omega) (by omega) (by omega)
      have OS : Hid (bits .or .u64 (accF hi s f k) (IntKind.u64.wrap (f k * 2 ^ (shI hi s k).toNat)) = accF hi s f (k + 1)) := or_step hi s h4 f hf k hlt
      have k0 : wr.cell? ⟨w2.heap.size, 0, none⟩ = some (.int .i64 s) := (HB.cell (p := ⟨w2.heap.size, 0, none⟩) (by simp)).trans (by simp)
      have cb : wr.cell? ⟨g, off + (at' + k), none⟩ = some (.int .u8 (f k)) := by
        rw [HB.cell (p := ⟨g, off + (at' + k), none⟩) (by show g < _; omega), World.cell?_alloc_past _ _ _ (by show g < _; omega), hbl1.cell (p := ⟨g, off + (at' + k), none⟩) hg]; exact hc k hlt
      have fk := hf k
      have hwr : IntKind.i64.wrap ((at' : Int) + (k : Int)) = (at' : Int) + (k : Int) := by rw [IntKind.wrap_i64]; omega
      have hidx : (at' : Int) + (k : Int) < (len : Int) := by omega
      have hidx0 : 0 ≤ (at' : Int) + (k : Int) := by omega
      have hidt : ((at' : Int) + (k : Int)).toNat = at' + k := by omega
      have HB' : Hid (Below (w2.heap.size + 1) (w2.alloc (.cells #[.int .i64 s, .int .i64 (rd p), .int .u64 (nl p), .int .u64 (mn p), .int .u64 (mx p)] 103)) wr) := HB
      clear HB hB0 hbl1 hc hf h hk
      go_wp2_with fail
      go_region_with (go_at_call 70; refine (shift_any _ _ _ _ (by omega) (by omega) (by omega)).mono ?_; rintro e wc ⟨rfl, hblc⟩; have cb2 := (hblc.cell (p := ⟨g, off + (at' + k), none⟩) (show g < wr.heap.size by omega)).trans cb)
      all_goals
        go_wp2
        go_roundw
        case rel => exact ⟨k + 1, by omega, by go_num, by rw [← OS.out], HB'.out.drew.trans (hblc.mono (by show _ ≤ wr.heap.size; omega))⟩
        case measure => simp [intOf]; omega
    · obtain rfl : k = s := by omega
      have k0 : wr.cell? ⟨w2.heap.size, 0, none⟩ = some (.int .i64 k) := (HB.cell (p := ⟨w2.heap.size, 0, none⟩) (by simp)).trans (by simp)
      have k1 : wr.cell? ⟨w2.heap.size, 1, none⟩ = some (.int .i64 (rd p)) := (HB.cell (p := ⟨w2.heap.size, 1, none⟩) (by simp)).trans (by simp)
      have k2 : wr.cell? ⟨w2.heap.size, 2, none⟩ = some (.int .u64 (nl p)) := (HB.cell (p := ⟨w2.heap.size, 2, none⟩) (by simp)).trans (by simp)
      have k3 : wr.cell? ⟨w2.heap.size, 3, none⟩ = some (.int .u64 (mn p)) := (HB.cell (p := ⟨w2.heap.size, 3, none⟩) (by simp)).trans (by simp)
      have k4 : wr.cell? ⟨w2.heap.size, 4, none⟩ = some (.int .u64 (mx p)) := (HB.cell (p := ⟨w2.heap.size, 4, none⟩) (by simp)).trans (by simp)
      have HW : Hid (Below w.heap.size w wr) := (hbl1.alloc hz _).trans (HB.mono (by omega))
      have hkk : Hid (KOk (k : Int) (rd p)) := by rw [← hs]; exact hk
      clear HB hB0 hbl1 hc hf h hk
      go_wp2_with (go_at_call 56; refine (word_any _ _ _ _ _ _ _ hkk.out (by omega) ac.1 ac.2).mono ?_; rintro e wc ⟨rfl, hblc⟩)
      go_ret2
      exact ⟨rfl, HW.out.trans (hblc.mono HW.out.size)⟩

/-- No type, or no order of bytes. -/
theorem Get_prim (sl : Value) (a : Option Addr) (len cap : Nat) (at' p o : Int) (w : World) (h : KT w) (hsl : sl = .slice a len cap) (hp : sz p = 0 ∨ (sz p ≠ 0 ∧ (o < 0 ∨ 2 ≤ o))) :
    Calls Tryd.prog 35 #[sl, .int .i64 at', .int .i64 p, .int .i64 o] w fun e w' => e = .returned (.tuple #[.int .u64 0, .int .i64 10]) ∧ Below w.heap.size w w' := by
  subst hsl
  rcases hp with hp | ⟨hp, ho⟩
  · go_enter Tryd.func35, Tryd.ntmps35
    go_wp2_with (first
      | (go_at_call 50; refine (kindOf_any _ _ h).mono ?_; rintro e w1 ⟨rfl, hbl1⟩)
      | (go_at_call 52; refine (shiftOf_some _ _).mono ?_; rintro e w2 ⟨⟨v, rfl⟩, rfl⟩)
      | (go_at_call 53; go_in))
    go_ret2
    exact ⟨rfl, (hbl1.alloc hbl1.size _).alloc (by have := hbl1.size; simp; omega) _⟩
  · have hfn := func_none
    have hpos : 0 < sz p := by have := kok p; unfold KOk at this; omega
    go_enter Tryd.func35, Tryd.ntmps35
    go_wp2_with (first
      | (go_at_call 50; refine (kindOf_any _ _ h).mono ?_; rintro e w1 ⟨rfl, hbl1⟩)
      | (go_at_call 52; refine (shiftOf_out _ _ ho).mono ?_; rintro e w2 ⟨rfl, rfl⟩)
      | (go_at_call 53; go_in))
    go_ret2
    exact ⟨rfl, (hbl1.alloc hbl1.size _).alloc (by have := hbl1.size; simp; omega) _⟩
/-- Too short. -/
theorem Get_short (a : Option Addr) (len cap : Nat) (at' p o : Int) (hi : Bool) (w : World) (h : KT w) (ho : o = if hi then 1 else 0) (hp : sz p ≠ 0) (hl : len ≤ 9223372036854775807) (hs : ¬ (0 ≤ at' ∧ at' + sz p ≤ len)) :
    Calls Tryd.prog 35 #[.slice a len cap, .int .i64 at', .int .i64 p, .int .i64 o] w fun e w' => e = .returned (.tuple #[.int .u64 0, .int .i64 11]) ∧ Below w.heap.size w w' := by
  have hfn := func_some
  have hpos : 0 < sz p := by have := kok p; unfold KOk at this; omega
  have hb8 : sz p ≤ 8 := by have := kok p; unfold KOk at this; omega
  have hd : (decide (0 ≤ at') && decide (0 ≤ sz p) && decide (at' ≤ len - sz p)) = false := by
    rw [decide_eq_true (show 0 ≤ sz p by omega)]
    by_cases h0 : 0 ≤ at'
    · rw [decide_eq_false (show ¬ at' ≤ len - sz p by omega)]; simp
    · rw [decide_eq_false h0]; rfl
  have HO : Hid (o = if hi then 1 else 0) := ho
  clear ho hs
  go_enter Tryd.func35, Tryd.ntmps35
  go_wp2_with (first
    | (go_at_call 50; refine (kindOf_any _ _ h).mono ?_; rintro e w1 ⟨rfl, hbl1⟩)
    | (go_at_call 52; refine (shiftOf_b _ hi _ HO.out).mono ?_; rintro e w2 ⟨rfl, rfl⟩)
    | (go_at_call 53; go_in)
    | (go_at_call 54; refine (within_any _ _ _ _ _ _ hl (by omega)).mono ?_; rintro e w2 ⟨rfl, rfl⟩; rw [hd]))
  go_ret2
  exact ⟨rfl, (hbl1.alloc hbl1.size _).alloc (by have := hbl1.size; simp; omega) _⟩
end Go.Proofs.YtfhphjgcmbneeaaDoor

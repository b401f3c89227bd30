/- PGt, PPt, PBl. -/
import Derived.Test.YtgklippjoikadaaDoorK02
import Derived.Laws.IdiomCopy
import Derived.Deep.OwnRows
import Derived.Laws.BytesArg
import Derived.Laws.RangeAny
import Derived.Deep.QuietTactic
import Derived.BigQuiet
namespace Go.Proofs.YtgklippjoikadaaDoor
open Go.ChangeShapes Go.WideShapes Go.ChangeAt Go.RowKit
theorem shiftOf_b (o : Int) (hi : Bool) (w : World) (ho : o = if hi then 1 else 0) : Calls Tryd.prog 65 #[.int .i64 o] w fun e w' => e = .returned (.func (Fn.func 78) #[.agg #[.bool hi]] #[]) ∧ w' = w := by
  cases hi
  · obtain rfl : o = 0 := ho
    exact shiftOf_0 w
  · obtain rfl : o = 1 := ho
    exact shiftOf_1 w
/-- Whatever the order, what comes is told from nil. -/
theorem shiftOf_some (o : Int) (w : World) : Calls Tryd.prog 65 #[.int .i64 o] w fun e w' => (∃ v, e = .returned v) ∧ w' = w := by
  by_cases h : o < 0 ∨ 2 ≤ o
  · exact (shiftOf_out o w h).mono fun e w' ⟨h1, h2⟩ => ⟨⟨_, h1⟩, h2⟩
  · by_cases h0 : o = 0
    · subst h0; exact (shiftOf_0 w).mono fun e w' ⟨h1, h2⟩ => ⟨⟨_, h1⟩, h2⟩
    · obtain rfl : o = 1 := by omega
      exact (shiftOf_1 w).mono fun e w' ⟨h1, h2⟩ => ⟨⟨_, h1⟩, h2⟩
theorem func_some (a b : Array Value) (w : World) : (binOp .eql 109 (.func (Fn.func 78) a b) .nilFunc).run Tryd.prog w = .ok (.bool false) w := by kernel_rfl
theorem func_none (w : World) : (binOp .eql 109 .nilFunc .nilFunc).run Tryd.prog w = .ok (.bool true) w := by kernel_rfl
set_option maxHeartbeats 1000000 in
theorem Get_ok (g off len cap at' : Nat) (p o : Int) (hi : Bool) (s : Nat) (f : Nat → Int) (w : World) (h : KT w)
    (ho : o = if hi then 1 else 0) (hs : sz p = s) (h4 : s = 1 ∨ s = 2 ∨ s = 4 ∨ s = 8) (hf : ∀ j, 0 ≤ f j ∧ f j ≤ 255) (hc : ∀ j, j < s → w.cell? ⟨g, off + (at' + j), none⟩ = some (.int .u8 (f j)))
    (hat : at' + s ≤ len) (hl : len ≤ 9223372036854775807) (hg : g < w.heap.size) :
    Calls Tryd.prog 47 #[.slice (some ⟨g, off, none⟩) len cap, .int .i64 at', .int .i64 p, .int .i64 o] w fun e w' => e = .returned (.tuple #[.int .u64 (wordF s (rd p) (accF hi s f s)), .int .i64 0]) ∧ Below w.heap.size w w' := by
  have hk := kok p
  have hne : Hid (sz p ≠ 0) := by show sz p ≠ 0; omega
  have HO : Hid (o = if hi then 1 else 0) := ho
  clear ho
  have ssp : 0 < (s : Int) := by omega
  have hw1 : decide ((0 : Int) ≤ (at' : Int)) = true := decide_eq_true (by omega)
  have hw2 : decide ((at' : Int) ≤ (len : Int) - (s : Int)) = true := decide_eq_true (by omega)
  have hfn := func_some
  go_enter Tryd.func47, Tryd.ntmps47
  go_wp2_with (first
    | (go_at_call 63; refine (kindOf_any _ _ h).mono ?_; rintro e w1 ⟨rfl, hbl1⟩)
    | (go_at_call 65; refine (shiftOf_b _ hi _ HO.out).mono ?_; rintro e w2 ⟨rfl, rfl⟩)
    | (go_at_call 66; go_in)
    | (go_at_call 67; refine (within_any _ _ _ _ _ _ hl (by omega)).mono ?_; rintro e w2 ⟨rfl, rfl⟩))
  have hB0 : Below (w2.heap.size + 1) (w2.alloc (.cells #[.int .i64 s, .int .i64 (rd p), .int .u64 (nl p), .int .u64 (mn p), .int .u64 (mx p)] 106)) ((w2.alloc (.cells #[.int .i64 s, .int .i64 (rd p), .int .u64 (nl p), .int .u64 (mn p), .int .u64 (mx p)] 106)).alloc (.cells #[.int .i64 s, .int .i64 (rd p), .int .u64 (nl p), .int .u64 (mn p), .int .u64 (mx p)] 106)) := (bel1 _ _).mono (by simp)
  have hz : w.heap.size ≤ w2.heap.size := hbl1.size
  go_loopw [12, 33] (fun b i wr => ∃ k : Nat, k ≤ s ∧ i = .int .i64 k ∧ b = .int .u64 (accF hi s f k) ∧ Below (w2.heap.size + 1) (w2.alloc (.cells #[.int .i64 s, .int .i64 (rd p), .int .u64 (nl p), .int .u64 (mn p), .int .u64 (mx p)] 106)) wr) (fun _ i _ => s - (intOf i).toNat)
  case atStart => exact ⟨0, Nat.zero_le _, rfl, rfl, hB0⟩
  case round =>
    obtain ⟨k, hk', rfl, rfl, HB⟩ := hrel
    have HBs := HB.size
    simp at HBs
    have ac := acc_bd hi s h4 f hf k hk'
    by_cases hlt : k < s
    · have sb := shI_bd hi s k (by omega) (by omega) (by omega)
      have OS : Hid (bits .or .u64 (accF hi s f k) (IntKind.u64.wrap (f k * 2 ^ (shI hi s k).toNat)) = accF hi s f (k + 1)) := or_step hi s h4 f hf k hlt
      have k0 : wr.cell? ⟨w2.heap.size, 0, none⟩ = some (.int .i64 s) := (HB.cell (p := ⟨w2.heap.size, 0, none⟩) (by simp)).trans (by simp)
      have cb : wr.cell? ⟨g, off + (at' + k), none⟩ = some (.int .u8 (f k)) := by
        rw [HB.cell (p := ⟨g, off + (at' + k), none⟩) (by show g < _; omega), World.cell?_alloc_past _ _ _ (by show g < _; omega), hbl1.cell (p := ⟨g, off + (at' + k), none⟩) hg]; exact hc k hlt
      have fk := hf k
      have hwr : IntKind.i64.wrap ((at' : Int) + (k : Int)) = (at' : Int) + (k : Int) := by rw [IntKind.wrap_i64]; omega
      have hidx : (at' : Int) + (k : Int) < (len : Int) := by omega
      have hidx0 : 0 ≤ (at' : Int) + (k : Int) := by omega
      have hidt : ((at' : Int) + (k : Int)).toNat = at' + k := by omega
      have HB' : Hid (Below (w2.heap.size + 1) (w2.alloc (.cells #[.int .i64 s, .int .i64 (rd p), .int .u64 (nl p), .int .u64 (mn p), .int .u64 (mx p)] 106)) wr) := HB
      clear HB hB0 hbl1 hc hf h hk
      go_wp2_with fail
      go_region_with (go_at_call 78; refine (shift_any _ _ _ _ (by omega) (by omega) (by omega)).mono ?_; rintro e wc ⟨rfl, hblc⟩; have cb2 := (hblc.cell (p := ⟨g, off + (at' + k), none⟩) (show g < wr.heap.size by omega)).trans cb)
      all_goals
        go_wp2
        go_roundw
        case rel => exact ⟨k + 1, by omega, by go_num, by rw [← OS.out], HB'.out.drew.trans (hblc.mono (by show _ ≤ wr.heap.size; omega))⟩
        case measure => simp [intOf]; omega
    · obtain rfl : k = s := by omega
      have k0 : wr.cell? ⟨w2.heap.size, 0, none⟩ = some (.int .i64 k) := (HB.cell (p := ⟨w2.heap.size, 0, none⟩) (by simp)).trans (by simp)
      have k1 : wr.cell? ⟨w2.heap.size, 1, none⟩ = some (.int .i64 (rd p)) := (HB.cell (p := ⟨w2.heap.size, 1, none⟩) (by simp)).trans (by simp)
      have k2 : wr.cell? ⟨w2.heap.size, 2, none⟩ = some (.int .u64 (nl p)) := (HB.cell (p := ⟨w2.heap.size, 2, none⟩) (by simp)).trans (by simp)
      have k3 : wr.cell? ⟨w2.heap.size, 3, none⟩ = some (.int .u64 (mn p)) := (HB.cell (p := ⟨w2.heap.size, 3, none⟩) (by simp)).trans (by simp)
      have k4 : wr.cell? ⟨w2.heap.size, 4, none⟩ = some (.int .u64 (mx p)) := (HB.cell (p := ⟨w2.heap.size, 4, none⟩) (by simp)).trans (by simp)
      have HW : Hid (Below w.heap.size w wr) := (hbl1.alloc hz _).trans (HB.mono (by omega))
      have hkk : Hid (KOk (k : Int) (rd p)) := by rw [← hs]; exact hk
      clear HB hB0 hbl1 hc hf h hk
      go_wp2_with (go_at_call 68; refine (word_any _ _ _ _ _ _ _ hkk.out (by omega) ac.1 ac.2).mono ?_; rintro e wc ⟨rfl, hblc⟩)
      go_ret2
      exact ⟨rfl, HW.out.trans (hblc.mono HW.out.size)⟩

/-- No type, or no order of bytes. -/
theorem Get_prim (sl : Value) (a : Option Addr) (len cap : Nat) (at' p o : Int) (w : World) (h : KT w) (hsl : sl = .slice a len cap) (hp : sz p = 0 ∨ (sz p ≠ 0 ∧ (o < 0 ∨ 2 ≤ o))) :
    Calls Tryd.prog 47 #[sl, .int .i64 at', .int .i64 p, .int .i64 o] w fun e w' => e = .returned (.tuple #[.int .u64 0, .int .i64 10]) ∧ Below w.heap.size w w' := by
  subst hsl
  rcases hp with hp | ⟨hp, ho⟩
  · go_enter Tryd.func47, Tryd.ntmps47
    go_wp2_with (first
      | (go_at_call 63; refine (kindOf_any _ _ h).mono ?_; rintro e w1 ⟨rfl, hbl1⟩)
      | (go_at_call 65; refine (shiftOf_some _ _).mono ?_; rintro e w2 ⟨⟨v, rfl⟩, rfl⟩)
      | (go_at_call 66; go_in))
    go_ret2
    exact ⟨rfl, (hbl1.alloc hbl1.size _).alloc (by have := hbl1.size; simp; omega) _⟩
  · have hfn := func_none
    have hpos : 0 < sz p := by have := kok p; unfold KOk at this; omega
    go_enter Tryd.func47, Tryd.ntmps47
    go_wp2_with (first
      | (go_at_call 63; refine (kindOf_any _ _ h).mono ?_; rintro e w1 ⟨rfl, hbl1⟩)
      | (go_at_call 65; refine (shiftOf_out _ _ ho).mono ?_; rintro e w2 ⟨rfl, rfl⟩)
      | (go_at_call 66; go_in))
    go_ret2
    exact ⟨rfl, (hbl1.alloc hbl1.size _).alloc (by have := hbl1.size; simp; omega) _⟩
/-- Too short. -/
theorem Get_short (a : Option Addr) (len cap : Nat) (at' p o : Int) (hi : Bool) (w : World) (h : KT w) (ho : o = if hi then 1 else 0) (hp : sz p ≠ 0) (hl : len ≤ 9223372036854775807) (hs : ¬ (0 ≤ at' ∧ at' + sz p ≤ len)) :
    Calls Tryd.prog 47 #[.slice a len cap, .int .i64 at', .int .i64 p, .int .i64 o] w fun e w' => e = .returned (.tuple #[.int .u64 0, .int .i64 11]) ∧ Below w.heap.size w w' := by
  have hfn := func_some
  have hpos : 0 < sz p := by have := kok p; unfold KOk at this; omega
  have hb8 : sz p ≤ 8 := by have := kok p; unfold KOk at this; omega
  have hd : (decide (0 ≤ at') && decide (0 ≤ sz p) && decide (at' ≤ len - sz p)) = false := by
    rw [decide_eq_true (show 0 ≤ sz p by omega)]
    by_cases h0 : 0 ≤ at'
    · rw [decide_eq_false (show ¬ at' ≤ len - sz p by omega)]; simp
    · rw [decide_eq_false h0]; rfl
  have HO : Hid (o = if hi then 1 else 0) := ho
  clear ho hs
  go_enter Tryd.func47, Tryd.ntmps47
  go_wp2_with (first
    | (go_at_call 63; refine (kindOf_any _ _ h).mono ?_; rintro e w1 ⟨rfl, hbl1⟩)
    | (go_at_call 65; refine (shiftOf_b _ hi _ HO.out).mono ?_; rintro e w2 ⟨rfl, rfl⟩)
    | (go_at_call 66; go_in)
    | (go_at_call 67; refine (within_any _ _ _ _ _ _ hl (by omega)).mono ?_; rintro e w2 ⟨rfl, rfl⟩; rw [hd]))
  go_ret2
  exact ⟨rfl, (hbl1.alloc hbl1.size _).alloc (by have := hbl1.size; simp; omega) _⟩
end Go.Proofs.YtgklippjoikadaaDoor
namespace Go.Proofs.YtgklippjoikadaaDoor
open Go.ChangeShapes Go.WideShapes Go.ChangeAt Go.RowKit

theorem setCells_snoc (b : Nat) (v : Value) : ∀ (l : List Value) (o : Nat) (w : World), w.setCells b o (l ++ [v]) = (w.setCells b o l).setCell ⟨b, o + l.length, none⟩ v
  | [], _, _ => rfl
  | u :: l, o, w => by
    show (w.setCell _ _).setCells b (o + 1) (l ++ [v]) = _
    rw [setCells_snoc b v l (o + 1)]
    simp [World.setCells, Nat.add_assoc, Nat.add_comm 1]
theorem below_setCell_both {B : Nat} {X Y : World} (h : Below B X Y) (a : Addr) (v : Value) : Below B (X.setCell a v) (Y.setCell a v) :=
  ⟨h.os, h.tape, h.output, by simpa [World.setCell] using h.size, fun k hk => by simp only [World.setCell, Array.getElem?_modify]; rw [h.block k hk]⟩
theorem size_setCells (b : Nat) : ∀ (l : List Value) (o : Nat) (w : World), (w.setCells b o l).heap.size = w.heap.size
  | [], _, _ => rfl
  | u :: l, o, w => by rw [World.setCells, size_setCells b l]; simp [World.setCell]
/-- The first k bytes of a word. -/
def bytesV (hi : Bool) (s : Nat) (x : Int) (k : Nat) : List Value := (List.range k).map fun j => .int .u8 (byteF hi s x j)
theorem bytesV_len (hi : Bool) (s : Nat) (x : Int) (k : Nat) : (bytesV hi s x k).length = k := by simp [bytesV]
theorem bytesV_succ (hi : Bool) (s : Nat) (x : Int) (k : Nat) : bytesV hi s x (k + 1) = bytesV hi s x k ++ [.int .u8 (byteF hi s x k)] := by simp [bytesV, List.range_succ]
theorem setBytes_succ (hi : Bool) (s : Nat) (x : Int) (k g o : Nat) (w : World) : w.setCells g o (bytesV hi s x (k + 1)) = (w.setCells g o (bytesV hi s x k)).setCell ⟨g, o + k, none⟩ (.int .u8 (byteF hi s x k)) := by
  rw [bytesV_succ, setCells_snoc, bytesV_len]

set_option maxHeartbeats 1000000 in
theorem Put_ok (g off len cap at' : Nat) (p o x : Int) (hi : Bool) (s : Nat) (w : World) (h : KT w)
    (ho : o = if hi then 1 else 0) (hs : sz p = s) (h4 : s = 1 ∨ s = 2 ∨ s = 4 ∨ s = 8) (hx0 : 0 ≤ x) (hx1 : x < 18446744073709551616) (hft : fitsF (sz p) (rd p) x = true)
    (hc : ∀ j, j < s → ∃ v, w.cell? ⟨g, off + (at' + j), none⟩ = some v) (hfz : ∀ j, j < s → w.frozen? ⟨g, off + (at' + j), none⟩ = false)
    (hat : at' + s ≤ len) (hl : len ≤ 9223372036854775807) (hg : g < w.heap.size) :
    Calls Tryd.prog 42 #[.slice (some ⟨g, off, none⟩) len cap, .int .i64 at', .int .i64 p, .int .i64 o, .int .u64 x] w fun e w' => e = .returned (.int .i64 0) ∧ Below w.heap.size (w.setCells g (off + at') (bytesV hi s x s)) w' := by
  have hk := kok p
  have HO : Hid (o = if hi then 1 else 0) := ho
  clear ho
  have ssp : 0 < (s : Int) := by omega
  have hw1 : decide ((0 : Int) ≤ (at' : Int)) = true := decide_eq_true (by omega)
  have hw2 : decide ((at' : Int) ≤ (len : Int) - (s : Int)) = true := decide_eq_true (by omega)
  have hfn := func_some
  have hft' : fitsF s (rd p) x = true := by rw [← hs]; exact hft
  have hk' : KOk s (rd p) := by rw [← hs]; exact hk
  clear hft
  go_enter Tryd.func42, Tryd.ntmps42
  go_wp2_with (first
    | (go_at_call 63; refine (kindOf_any _ _ h).mono ?_; rintro e w1 ⟨rfl, hbl1⟩)
    | (go_at_call 65; refine (shiftOf_b _ hi _ HO.out).mono ?_; rintro e w2 ⟨rfl, rfl⟩)
    | (go_at_call 66; go_in)
    | (go_at_call 64; refine (fits_any _ _ _ _ _ _ _ hk' hx0 hx1).mono ?_; rintro e w3 ⟨rfl, hbl3⟩; obtain ⟨hc3, hf3⟩ := bcell hbl3)
    | (go_at_call 67; refine (within_any _ _ _ _ _ _ hl (by omega)).mono ?_; rintro e w4 ⟨rfl, rfl⟩))
  have hz : w.heap.size ≤ w2.heap.size := hbl1.size
  have B4 : Below w.heap.size w w4 := ((hbl1.alloc hz _).alloc (by simp; omega) _).trans (hbl3.mono (by simp; omega))
  have z4 : w2.heap.size < w4.heap.size := by have := hbl3.size; simp at this; omega
  have k0 : w4.cell? ⟨w2.heap.size, 0, none⟩ = some (.int .i64 s) := by rw [hc3 _ _ (by simp; omega)]; simp
  clear hc3 hf3 hbl3 hbl1 h hk
  go_loopw [37] (fun i wr => ∃ k : Nat, k ≤ s ∧ i = .int .i64 k ∧ Below w.heap.size (w.setCells g (off + at') (bytesV hi s x k)) wr ∧ wr.cell? ⟨w2.heap.size, 0, none⟩ = some (.int .i64 s) ∧ w2.heap.size < wr.heap.size) (fun i _ => s - (intOf i).toNat)
  case atStart => exact ⟨0, Nat.zero_le _, rfl, B4, k0, z4⟩
  case round =>
    obtain ⟨k, hk', rfl, HB, K0, Z0⟩ := hrel
    clear B4 k0 z4
    by_cases hlt : k < s
    · have sb := shI_bd hi s k (by omega) (by omega) (by omega)
      have hwr : IntKind.i64.wrap ((at' : Int) + (k : Int)) = (at' : Int) + (k : Int) := by rw [IntKind.wrap_i64]; omega
      have hidx : (at' : Int) + (k : Int) < (len : Int) := by omega
      have hidx0 : 0 ≤ (at' : Int) + (k : Int) := by omega
      have hidt : ((at' : Int) + (k : Int)).toNat = at' + k := by omega
      have hv : IntKind.u8.wrap (x / 2 ^ (shI hi s k).toNat) = byteF hi s x k := IntKind.wrap_u8' _
      obtain ⟨v0, hv0⟩ := hc k hlt
      have cb : wr.cell? ⟨g, off + (at' + k), none⟩ = some v0 := by
        rw [HB.cell (p := ⟨g, off + (at' + k), none⟩) hg, World.cell?_setCells_out _ _ _ _ _ (fun _ _ => by rw [bytesV_len]; show _ ∨ _ ≤ off + (at' + k); omega)]; exact hv0
      have fb : wr.frozen? ⟨g, off + (at' + k), none⟩ = false := by
        rw [HB.frozen (p := ⟨g, off + (at' + k), none⟩) hg, World.frozen?_setCells]; exact hfz k hlt
      have gz : g < wr.heap.size := by omega
      have HB' : Hid (Below w.heap.size (w.setCells g (off + at') (bytesV hi s x k)) wr) := HB
      have gne : ¬ g = w2.heap.size := by omega
      clear HB hc hfz
      go_wp2_with (go_at_call 78; refine (shift_any _ _ _ _ (by omega) (by omega) (by omega)).mono ?_; rintro e wc ⟨rfl, hblc⟩; have cb2 := (hblc.cell (p := ⟨g, off + (at' + k), none⟩) gz).trans cb; have fb2 := (hblc.frozen (p := ⟨g, off + (at' + k), none⟩) gz).trans fb)
      go_roundw
      case rel =>
        have HC : Below w.heap.size (w.setCells g (off + at') (bytesV hi s x k)) wc := HB'.out.trans (hblc.mono (by omega))
        refine ⟨k + 1, by omega, by go_num, ?_, ?_, ?_⟩
        · rw [setBytes_succ, Nat.add_assoc]; exact below_setCell_both HC _ _
        · rw [World.cell?_setCell_other _ _ _ _ (by simp)]; exact (hblc.cell (p := ⟨w2.heap.size, 0, none⟩) Z0).trans K0
        · have := hblc.size; simp [World.setCell]; omega
      case measure => simp [intOf]; omega
    · obtain rfl : k = s := by omega
      go_wp2
      go_ret
      exact ⟨rfl, HB⟩

/-- No type, or no order of bytes. -/
theorem Put_prim (a : Option Addr) (len cap : Nat) (at' p o x : Int) (w : World) (h : KT w) (hp : sz p = 0 ∨ (sz p ≠ 0 ∧ (o < 0 ∨ 2 ≤ o))) :
    Calls Tryd.prog 42 #[.slice a len cap, .int .i64 at', .int .i64 p, .int .i64 o, .int .u64 x] w fun e w' => e = .returned (.int .i64 10) ∧ Below w.heap.size w w' := by
  rcases hp with hp | ⟨hp, ho⟩
  · go_enter Tryd.func42, Tryd.ntmps42
    go_wp2_with (first
      | (go_at_call 63; refine (kindOf_any _ _ h).mono ?_; rintro e w1 ⟨rfl, hbl1⟩)
      | (go_at_call 65; refine (shiftOf_some _ _).mono ?_; rintro e w2 ⟨⟨v, rfl⟩, rfl⟩)
      | (go_at_call 66; go_in))
    go_ret
    exact ⟨rfl, (hbl1.alloc hbl1.size _).alloc (by have := hbl1.size; simp; omega) _⟩
  · have hfn := func_none
    have hpos : 0 < sz p := by have := kok p; unfold KOk at this; omega
    go_enter Tryd.func42, Tryd.ntmps42
    go_wp2_with (first
      | (go_at_call 63; refine (kindOf_any _ _ h).mono ?_; rintro e w1 ⟨rfl, hbl1⟩)
      | (go_at_call 65; refine (shiftOf_out _ _ ho).mono ?_; rintro e w2 ⟨rfl, rfl⟩)
      | (go_at_call 66; go_in))
    go_ret
    exact ⟨rfl, (hbl1.alloc hbl1.size _).alloc (by have := hbl1.size; simp; omega) _⟩
/-- No word of the type. -/
theorem Put_range (a : Option Addr) (len cap : Nat) (at' p o x : Int) (hi : Bool) (w : World) (h : KT w) (ho : o = if hi then 1 else 0) (hp : sz p ≠ 0) (hx0 : 0 ≤ x) (hx1 : x < 18446744073709551616) (hft : fitsF (sz p) (rd p) x = false) :
    Calls Tryd.prog 42 #[.slice a len cap, .int .i64 at', .int .i64 p, .int .i64 o, .int .u64 x] w fun e w' => e = .returned (.int .i64 12) ∧ Below w.heap.size w w' := by
  have hfn := func_some
  have hk := kok p
  have hpos : 0 < sz p := by unfold KOk at hk; omega
  have HO : Hid (o = if hi then 1 else 0) := ho
  clear ho
  go_enter Tryd.func42, Tryd.ntmps42
  go_wp2_with (first
    | (go_at_call 63; refine (kindOf_any _ _ h).mono ?_; rintro e w1 ⟨rfl, hbl1⟩)
    | (go_at_call 65; refine (shiftOf_b _ hi _ HO.out).mono ?_; rintro e w2 ⟨rfl, rfl⟩)
    | (go_at_call 66; go_in)
    | (go_at_call 64; refine (fits_any _ _ _ _ _ _ _ hk hx0 hx1).mono ?_; rintro e w3 ⟨rfl, hbl3⟩))
  go_ret
  exact ⟨rfl, ((hbl1.alloc hbl1.size _).alloc (by have := hbl1.size; simp; omega) _).trans (hbl3.mono (by have := hbl1.size; simp; omega))⟩
/-- Too short. -/
theorem Put_short (a : Option Addr) (len cap : Nat) (at' p o x : Int) (hi : Bool) (w : World) (h : KT w) (ho : o = if hi then 1 else 0) (hp : sz p ≠ 0) (hx0 : 0 ≤ x) (hx1 : x < 18446744073709551616) (hft : fitsF (sz p) (rd p) x = true)
    (hl : len ≤ 9223372036854775807) (hs : ¬ (0 ≤ at' ∧ at' + sz p ≤ len)) :
    Calls Tryd.prog 42 #[.slice a len cap, .int .i64 at', .int .i64 p, .int .i64 o, .int .u64 x] w fun e w' => e = .returned (.int .i64 11) ∧ Below w.heap.size w w' := by
  have hfn := func_some
  have hk := kok p
  have hpos : 0 < sz p := by unfold KOk at hk; omega
  have hb8 : sz p ≤ 8 := by unfold KOk at hk; omega
  have hd : (decide (0 ≤ at') && decide (0 ≤ sz p) && decide (at' ≤ len - sz p)) = false := by
    rw [decide_eq_true (show 0 ≤ sz p by omega)]
    by_cases h0 : 0 ≤ at'
    · rw [decide_eq_false (show ¬ at' ≤ len - sz p by omega)]; simp
    · rw [decide_eq_false h0]; rfl
  have HO : Hid (o = if hi then 1 else 0) := ho
  clear ho hs
  go_enter Tryd.func42, Tryd.ntmps42
  go_wp2_with (first
    | (go_at_call 63; refine (kindOf_any _ _ h).mono ?_; rintro e w1 ⟨rfl, hbl1⟩)
    | (go_at_call 65; refine (shiftOf_b _ hi _ HO.out).mono ?_; rintro e w2 ⟨rfl, rfl⟩)
    | (go_at_call 66; go_in)
    | (go_at_call 64; refine (fits_any _ _ _ _ _ _ _ hk hx0 hx1).mono ?_; rintro e w3 ⟨rfl, hbl3⟩; obtain ⟨hc3, hf3⟩ := bcell hbl3)
    | (go_at_call 67; refine (within_any _ _ _ _ _ _ hl (by omega)).mono ?_; rintro e w4 ⟨rfl, rfl⟩; rw [hd]))
  go_ret
  exact ⟨rfl, ((hbl1.alloc hbl1.size _).alloc (by have := hbl1.size; simp; omega) _).trans (hbl3.mono (by have := hbl1.size; simp; omega))⟩
end Go.Proofs.YtgklippjoikadaaDoor
namespace Go.Proofs.YtgklippjoikadaaDoor
open Go.ChangeShapes Go.WideShapes Go.ChangeAt Go.RowKit

theorem rowIs_below {w w' : World} {b : Nat} {t : TypeId} {n B : Nat} {f : Nat → Value} (h : w.rowIs b t n f) (hb : Below B w w') (hB : b < B) : w'.rowIs b t n f := h.of_block (hb.block b hB)
theorem below_setCells {B b : Nat} {a : World} (hB : B ≤ b) : ∀ (vs : List Value) (o : Nat) (w : World), Below B a w → Below B a (w.setCells b o vs)
  | [], _, _, h => h
  | v :: r, o, _, h => below_setCells hB r (o + 1) _ (h.setCell hB v)
theorem rowIs_setBytes {b : Nat} {t : TypeId} {n : Nat} {f : Nat → Value} (hi : Bool) (s : Nat) (x : Int) (o : Nat) {w : World} (h : w.rowIs b t n f) :
    ∀ k : Nat, (w.setCells b o (bytesV hi s x k)).rowIs b t n (fun j => if o ≤ j ∧ j < o + k then .int .u8 (byteF hi s x (j - o)) else f j)
  | 0 => h.congr fun i _ => by rw [if_neg (by omega)]
  | k + 1 => by
    rw [setBytes_succ]
    refine ((rowIs_setBytes hi s x o h k).set (o + k) _).congr fun i _ => ?_
    by_cases e : i = o + k
    · subst e; rw [if_pos rfl, if_pos (by omega), show o + k - o = k by omega]
    · rw [if_neg e]
      by_cases e2 : o ≤ i ∧ i < o + k
      · rw [if_pos e2, if_pos (by omega)]
      · rw [if_neg e2, if_neg (by omega)]
theorem byteF_bd (hi : Bool) (s : Nat) (x : Int) (k : Nat) : 0 ≤ byteF hi s x k ∧ byteF hi s x k ≤ 255 := by unfold byteF; omega
theorem word_mod (s r : Int) (x : Int) : wordF s r (x % pw s) = wordF s r x := by
  have e : x % pw s % pw s = x % pw s := Int.emod_emod_of_dvd x (Int.dvd_refl _)
  unfold wordF; rw [e]
theorem word_back (s r x : Int) (h : fitsF s r x = true) : wordF s r (x % pw s) = x := by
  rw [word_mod s r]
  unfold fitsF at h
  simp at h
  exact h.2
end Go.Proofs.YtgklippjoikadaaDoor

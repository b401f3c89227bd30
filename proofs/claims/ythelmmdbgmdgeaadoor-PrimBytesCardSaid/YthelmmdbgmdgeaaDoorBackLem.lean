/- Lemmas for the law PrimBack. -/
import Derived.Test.YthelmmdbgmdgeaaDoorPut
import Derived.Test.YthelmmdbgmdgeaaDoorCompare
import Derived.Deep.OwnRows
import Derived.Laws.BytesArg
import Derived.Laws.RangeAny
import Derived.Deep.QuietTactic
import Derived.BigQuiet
namespace Go.Proofs.YthelmmdbgmdgeaaDoor
open Go.ChangeShapes Go.WideShapes Go.ChangeAt Go.RowKit

theorem info5 : (Tryd.prog.info? 5).map (fun i => (i.zero, i.size, i.bytes)) = some (some (.int .u8 0), 1, 1) := by kernel_rfl
theorem rowIs_below {w w' : World} {b : Nat} {t : TypeId} {n B : Nat} {f : Nat → Value} (h : w.rowIs b t n f) (hb : Below B w w') (hB : b < B) : w'.rowIs b t n f := h.of_block (hb.block b hB)
/-- The bytes of a word as numbers. -/
def bytesI (hi : Bool) (s : Nat) (x : Int) : List Int := (List.range s).map (byteF hi s x)
/-- What the law keeps of the two orders behind k rounds. -/
def strK (s : Nat) (x : Int) (k j : Nat) : ByteArray := if j < k then strOfNums (bytesI (decide (j = 1)) s x) else ByteArray.empty
theorem two_rows (w : World) (s : Nat) (x : Int) : (w.alloc (.cells #[.string { data := #[] }, .string { data := #[] }] 29)).rowIs w.heap.size 29 2 (fun j => .string (strK s x 0 j)) := by
  refine World.rowIs_alloc w #[.string { data := #[] }, .string { data := #[] }] 29 _ (fun i hi => ?_)
  have hi2 : i = 0 ∨ i = 1 := by simp at hi; omega
  rcases hi2 with rfl | rfl <;> rfl

theorem below_setCells {B b : Nat} {a : World} (hB : B ≤ b) : ∀ (vs : List Value) (o : Nat) (w : World), Below B a w → Below B a (w.setCells b o vs)
  | [], _, _, h => h
  | v :: r, o, _, h => below_setCells hB r (o + 1) _ (h.setCell hB v)
theorem rowIs_setBytes {b : Nat} {t : TypeId} {n : Nat} {f : Nat → Value} (hi : Bool) (s : Nat) (x : Int) (o : Nat) {w : World} (h : w.rowIs b t n f) :
    ∀ k : Nat, (w.setCells b o (bytesV hi s x k)).rowIs b t n (fun j => if o ≤ j ∧ j < o + k then .int .u8 (byteF hi s x (j - o)) else f j)
  | 0 => h.congr fun i _ => by rw [if_neg (by omega)]
  | k + 1 => by
    rw [setBytes_succ]
    refine ((rowIs_setBytes hi s x o h k).set (o + k) _).congr fun i _ => ?_
    by_cases e : i = o + k
    · subst e; rw [if_pos rfl, if_pos (by omega), show o + k - o = k by omega]
    · rw [if_neg e]
      by_cases e2 : o ≤ i ∧ i < o + k
      · rw [if_pos e2, if_pos (by omega)]
      · rw [if_neg e2, if_neg (by omega)]
theorem byteF_bd (hi : Bool) (s : Nat) (x : Int) (k : Nat) : 0 ≤ byteF hi s x k ∧ byteF hi s x k ≤ 255 := by unfold byteF; omega
theorem word_mod (s r : Int) (x : Int) : wordF s r (x % pw s) = wordF s r x := by
  have e : x % pw s % pw s = x % pw s := Int.emod_emod_of_dvd x (Int.dvd_refl _)
  unfold wordF; rw [e]
theorem word_back (s r x : Int) (h : fitsF s r x = true) : wordF s r (x % pw s) = x := by
  rw [word_mod s r]
  unfold fitsF at h
  simp at h
  exact h.2

theorem width_pos (s : ByteArray) (pos : Nat) (h : pos < s.size) : 1 ≤ (Utf8.decode s pos).2 := by
  by_cases ha : (s[pos]'h).toNat < 128
  · rw [decode_ascii s pos h ha]
    exact Nat.le_refl _
  · exact (decode_high s pos h (by omega)).2
theorem str_size (hi : Bool) (s : Nat) (x : Int) : (strOfNums (bytesI hi s x)).size = s := by rw [strOfNums_size]; simp [bytesI]
theorem str_get (hi : Bool) (s : Nat) (x : Int) (i : Nat) (h : i < (strOfNums (bytesI hi s x)).size) : (((strOfNums (bytesI hi s x))[i]'h).toNat : Int) = byteF hi s x i := by
  have hb := byteF_bd hi s x i
  have hs : i < s := by rw [str_size] at h; exact h
  have e : (strOfNums (bytesI hi s x))[i]'h = UInt8.ofNat (byteF hi s x i).toNat := by
    show (strOfNums (bytesI hi s x)).data[i] = _
    simp [strOfNums, bytesI]
  rw [e]
  simp
  omega
theorem byte_turn (s : Nat) (x : Int) (i : Nat) (h : i < s) : byteF true s x (s - 1 - i) = byteF false s x i := by
  unfold byteF shI
  have : 8 * ((s : Int) - 1 - ((s - 1 - i : Nat) : Int)) = 8 * (i : Int) := by omega
  simp only [if_true, this]
  rfl

/-- The bytes of the law's last buffer. -/
def vF (fill : Int) (j : Nat) : Int := (fill + (j : Int) * 37) % 256
theorem vF_bd (fill : Int) (j : Nat) : 0 ≤ vF fill j ∧ vF fill j ≤ 255 := by unfold vF; omega
theorem Get_0 (g len cap : Nat) (p : Int) (s : Nat) (f : Nat → Int) (w : World) (h : KT w) (hs : sz p = s) (h4 : s = 1 ∨ s = 2 ∨ s = 4 ∨ s = 8) (hf : ∀ j, 0 ≤ f j ∧ f j ≤ 255)
    (hc : ∀ j, j < s → w.cell? ⟨g, j, none⟩ = some (.int .u8 (f j))) (hat : s ≤ len) (hl : len ≤ 9223372036854775807) (hg : g < w.heap.size) :
    Calls Tryd.prog 14 #[.slice (some ⟨g, 0, none⟩) len cap, .int .i64 0, .int .i64 p, .int .i64 0] w fun e w' => e = .returned (.tuple #[.int .u64 (wordF s (rd p) (accF false s f s)), .int .i64 0]) ∧ Below w.heap.size w w' :=
  Get_ok g 0 len cap 0 p 0 false s f w h rfl hs h4 hf (fun j hj => by rw [Nat.zero_add, Nat.zero_add]; exact hc j hj) (by omega) hl hg
theorem wordF_bd (s r x : Int) (hk : KOk s r) : 0 ≤ wordF s r x ∧ wordF s r x < 18446744073709551616 := by
  unfold wordF
  rcases hk with ⟨rfl, rfl⟩ | ⟨rfl, rfl⟩ | ⟨rfl, rfl⟩ | ⟨rfl, rfl⟩ | ⟨rfl, rfl⟩ | ⟨rfl, rfl⟩ | ⟨rfl, rfl⟩ | ⟨rfl, rfl⟩ | ⟨rfl, rfl⟩ | ⟨rfl, rfl⟩ | ⟨rfl, rfl⟩
  all_goals simp [pw]
  all_goals first | omega | (split <;> omega)
theorem word_fits (s r x : Int) (hk : KOk s r) (hs : s ≠ 0) : fitsF s r (wordF s r x) = true := by
  have hp : 0 < s := by unfold KOk at hk; omega
  unfold fitsF
  rw [decide_eq_true hp]
  simp only [Bool.true_and, beq_iff_eq]
  unfold wordF
  rcases hk with ⟨rfl, rfl⟩ | ⟨rfl, rfl⟩ | ⟨rfl, rfl⟩ | ⟨rfl, rfl⟩ | ⟨rfl, rfl⟩ | ⟨rfl, rfl⟩ | ⟨rfl, rfl⟩ | ⟨rfl, rfl⟩ | ⟨rfl, rfl⟩ | ⟨rfl, rfl⟩ | ⟨rfl, rfl⟩
  all_goals simp [pw]
  all_goals first | omega | (split <;> split <;> omega) | (split <;> omega)

theorem two_empty (w : World) : (w.alloc (.cells #[.string { data := #[] }, .string { data := #[] }] 29)).rowIs w.heap.size 29 2 (fun _ => .string ByteArray.empty) := by
  refine World.rowIs_alloc w #[.string { data := #[] }, .string { data := #[] }] 29 _ (fun i hi => ?_)
  have hi2 : i = 0 ∨ i = 1 := by simp at hi; omega
  rcases hi2 with rfl | rfl <;> rfl
end Go.Proofs.YthelmmdbgmdgeaaDoor

/- Paths as texts: plain mathematics; the document's Text. -/
import Derived.Test.YtfikmlckcbnppaaDoorLpI
namespace Go.Proofs.YtfikmlckcbnppaaDoor
open Go.ChangeShapes Go.WideShapes Go.ChangeAt Go.RowKit Go.Shelf Go.Maps

def okT (x : ByteArray × Int) : Bool := symbolB x.1 && (decide (-1 ≤ x.2) && decide (x.2 ≤ 65535))
def seT (x : ByteArray × Int) : ByteArray := if 0 ≤ x.2 then ((⟨#[91]⟩ : ByteArray) ++ decB x.2.toNat) ++ (⟨#[93]⟩ : ByteArray) else ⟨#[]⟩
/-- The text of the first steps. -/
def txN (l : List (ByteArray × Int)) : Nat → ByteArray
  | 0 => ⟨#[]⟩
  | i + 1 => match l[i]? with
    | some x => ((if i = 0 then txN l i else txN l i ++ (⟨#[46]⟩ : ByteArray)) ++ x.1) ++ seT x
    | none => txN l i
def textZ (l : List (ByteArray × Int)) : Option ByteArray := if l.all okT then some (txN l l.length) else none
theorem ba_assoc (a b c : ByteArray) : (a ++ b) ++ c = a ++ (b ++ c) := by
  refine ba_ext ?_
  simp only [ByteArray.data_append, Array.toList_append, List.append_assoc]
theorem ba_nil (a : ByteArray) : a ++ (⟨#[]⟩ : ByteArray) = a := by
  refine ba_ext ?_
  simp [ByteArray.data_append]
theorem dec_len : ∀ n, (Lib.decDigits n).length ≤ n + 1 := by
  intro n
  induction n using Nat.strongRecOn with
  | _ n ih =>
    by_cases h : n / 10 = 0
    · rw [dec_small h]; simp
    · rw [dec_big h, List.length_append, List.length_singleton]
      have := ih (n / 10) (by omega)
      omega
theorem decB_size (n : Nat) : (decB n).size ≤ n + 1 := by
  show (Lib.decDigits n).toArray.size ≤ _
  simpa using dec_len n
theorem seT_size {x : ByteArray × Int} (h : x.2 ≤ 65535) : (seT x).size ≤ 65540 := by
  unfold seT
  split
  · rw [ByteArray.size_append, ByteArray.size_append]
    have := decB_size x.2.toNat
    show 1 + (decB x.2.toNat).size + 1 ≤ _
    omega
  · exact Nat.zero_le _
theorem okT_of {x : ByteArray × Int} (h : okT x = true) : symbolB x.1 = true ∧ -1 ≤ x.2 ∧ x.2 ≤ 65535 ∧ x.1.size ≤ 64 := by
  unfold okT at h
  simp only [Bool.and_eq_true, decide_eq_true_eq] at h
  refine ⟨h.1, h.2.1, h.2.2, ?_⟩
  have := of_decide_eq_true (show decide _ = true from h.1)
  exact this.2.1
theorem txN_succ {l : List (ByteArray × Int)} {i : Nat} {x : ByteArray × Int} (h : l[i]? = some x) : txN l (i + 1) = ((if i = 0 then txN l i else txN l i ++ (⟨#[46]⟩ : ByteArray)) ++ x.1) ++ seT x := by rw [txN, h]
theorem txN_size {l : List (ByteArray × Int)} : ∀ {i : Nat}, (∀ j x, j < i → l[j]? = some x → okT x = true) → (txN l i).size ≤ 65605 * i
  | 0, _ => Nat.le_refl _
  | i + 1, h => by
    have ih := txN_size (l := l) (i := i) fun j x hj => h j x (by omega)
    cases hx : l[i]? with
    | none => rw [txN, hx]; show (txN l i).size ≤ _; omega
    | some x =>
      obtain ⟨-, -, h3, h4⟩ := okT_of (h i x (by omega) hx)
      have h5 := seT_size h3
      rw [txN_succ hx, ByteArray.size_append, ByteArray.size_append]
      have : (if i = 0 then txN l i else txN l i ++ (⟨#[46]⟩ : ByteArray)).size ≤ (txN l i).size + 1 := by
        split
        · omega
        · rw [ByteArray.size_append]; exact Nat.le_refl _
      omega
/-- Steps in memory, ahead of block H. -/
structure SpRow (w : World) (pp : Option Addr) (H : Nat) (l : List (ByteArray × Int)) : Prop where
  c : ∀ (i : Nat) (x : ByteArray × Int), l[i]? = some x → ∃ g o, pp = some ⟨g, o, none⟩ ∧ g < H ∧ w.cell? ⟨g, o + i * 2, none⟩ = some (.string x.1) ∧ w.cell? ⟨g, o + i * 2 + 1, none⟩ = some (.int .i64 x.2)
theorem SpRow.below {w w' : World} {pp : Option Addr} {H : Nat} {l : List (ByteArray × Int)} (h : SpRow w pp H l) (hb : Below H w w') : SpRow w' pp H l :=
  ⟨fun i x hx => by
    obtain ⟨g, o, e, hg, h1, h2⟩ := h.c i x hx
    exact ⟨g, o, e, hg, (hb.cell (p := ⟨g, o + i * 2, none⟩) hg).trans h1, (hb.cell (p := ⟨g, o + i * 2 + 1, none⟩) hg).trans h2⟩⟩
end Go.Proofs.YtfikmlckcbnppaaDoor

/- What every op leaves: nothing outside of the message; what is refused leaves all. -/
import Derived.Test.YtfhphjgcmbneeaaDoorCuQ
namespace Go.Proofs.YtfhphjgcmbneeaaDoor
open Go.ChangeShapes Go.WideShapes Go.ChangeAt Go.RowKit

structure Wi (len st en : Nat) (f : Nat → Int) (E : Int) (n : Nat) (f' : Nat → Int) : Prop where
  le : en ≤ n
  lt : n ≤ len
  no : E ≠ 0 → n = en ∧ f' = f
  out : ∀ j, (j < st ∨ n ≤ j) → f' j = f j
section
variable {hi : Bool} {len st en : Nat} {f : Nat → Int}
theorem wi_same (h : en ≤ len) (E : Int) : Wi len st en f E en f := ⟨Nat.le_refl _, h, fun _ => ⟨rfl, rfl⟩, fun _ _ => rfl⟩
theorem wi_cl (h : en ≤ len) (n : Int) : Wi len st en f (clE len en n) (clN len en n) f := by
  unfold clN
  rcases clE_cases len en n with ⟨e, _⟩ | ⟨e, _⟩ | ⟨e, h0, h1⟩
  · rw [e, if_neg (by decide)]; exact wi_same h _
  · rw [e, if_neg (by decide)]; exact wi_same h _
  · rw [e, if_pos rfl]; exact ⟨by omega, by omega, fun h => absurd rfl h, fun _ _ => rfl⟩
theorem lay_out {a n : Nat} {t : ByteArray} {j : Nat} (h : j < a ∨ a + n ≤ j) : lay f a n t j = f j := by
  unfold lay
  rw [if_neg (by omega)]
theorem wi_put (h : en ≤ len) (a p x : Int) : Wi len st en f (putE st en a p x) en (putF hi st en f a p x) :=
  ⟨Nat.le_refl _, h, fun e => ⟨rfl, by unfold putF; rw [if_neg e]⟩, fun _ hj => putF_out hj⟩
theorem wi_set (h : en ≤ len) (a n : Int) (t : ByteArray) : Wi len st en f (setE st en a n t) en (setF st en f a n t) := by
  refine ⟨Nat.le_refl _, h, fun e => ⟨rfl, by unfold setF; rw [if_neg e]⟩, fun j hj => ?_⟩
  by_cases h0 : n < 0
  · rw [(setN (f := f) (t := t) (.inl h0)).2]
  · by_cases h1 : inC st en a n = true
    · have := inC_of h1
      rw [(setZ (f := f) (t := t) h0 h1).2]
      split
      · exact lay_out (by omega)
      · rfl
    · rw [(setN (f := f) (t := t) (.inr ⟨h0, by simpa using h1⟩)).2]
theorem wrE_zero {size : Int} {ns : List Nb} (e : wrE len en size ns = 0) : 0 ≤ size ∧ (en : Int) + size ≤ len := by
  unfold wrE at e
  split at e
  · cases e
  · rcases clE_cases len en size with ⟨e2, _⟩ | ⟨e2, _⟩ | ⟨_, h0, h1⟩
    · rw [e2] at e; cases e
    · rw [e2] at e; cases e
    · exact ⟨h0, h1⟩
theorem wrF_out {size : Int} {ns : List Nb} (h1 : st ≤ en) {j : Nat} (hj : j < st ∨ wrN len en size ns ≤ j) : wrF hi len st en f size ns j = f j := by
  unfold wrF
  unfold wrN at hj
  split
  · rename_i e
    rw [if_pos e] at hj
    rw [puts_out hj]
    exact lay_out (by omega)
  · rfl
theorem wi_wr (h1 : st ≤ en) (h : en ≤ len) (size : Int) (ns : List Nb) : Wi len st en f (wrE len en size ns) (wrN len en size ns) (wrF hi len st en f size ns) := by
  refine ⟨?_, ?_, fun e => ⟨by unfold wrN; rw [if_neg e], by unfold wrF; rw [if_neg e]⟩, fun j hj => wrF_out h1 hj⟩
  · unfold wrN; split <;> omega
  · unfold wrN
    split
    · rename_i e
      have := wrE_zero e
      omega
    · exact h
theorem wi_pw (g : Bool) (h1 : st ≤ en) (h : en ≤ len) (size : Int) (ns : List Nb) : Wi len st en f (pwE g len en size ns) (pwN g len en size ns) (pwF g hi len st en f size ns) := by
  unfold pwE pwN pwF
  cases g
  · exact wi_same h _
  · exact wi_wr h1 h size ns
theorem wi_gw (g : Bool) (h : en ≤ len) (size : Int) : Wi len st en f (gwE g len en size) (gwN g len en size) f := by
  unfold gwE gwN
  cases g
  · exact wi_same h _
  · exact wi_cl h size
theorem pdE_zero {t : Tk} {n : Nat} (e : pdE len en t n = 0) : lenG t = true ∧ ¬ mx t.a.p < n ∧ 1 ≤ t.siz ∧ (en : Int) + t.siz + n ≤ len := by
  unfold pdE at e
  split at e
  · rename_i hg
    obtain ⟨hs, _⟩ := goods_ok (len_ok hg)
    split at e
    · cases e
    · rename_i hm
      split at e
      · cases e
      · exact ⟨hg, hm, hs.1, by omega⟩
  · cases e
theorem pd_wr {t : Tk} {n : Nat} (e : pdE len en t n = 0) : wrE len en t.siz (lenN t n) = 0 := by
  obtain ⟨_, hm, h1, h2⟩ := pdE_zero e
  unfold wrE lenN
  rw [over_one _ (by exact hm)]
  unfold clE
  rw [if_neg (by decide), if_neg (by omega), if_neg (by omega)]
theorem wi_pd (h1 : st ≤ en) (h : en ≤ len) (t : Tk) (s : ByteArray) : Wi len st en f (pdE len en t s.size) (pdN len en t s.size) (pdF hi len st en f t s) := by
  refine ⟨?_, ?_, fun e => ⟨by unfold pdN; rw [if_neg e], by unfold pdF; rw [if_neg e]⟩, fun j hj => ?_⟩
  · unfold pdN; split <;> omega
  · unfold pdN
    split
    · rename_i e
      have := pdE_zero e
      omega
    · exact h
  · unfold pdF
    unfold pdN at hj
    split
    · rename_i e
      rw [if_pos e] at hj
      rw [lay_out (by omega)]
      have ew := pd_wr e
      exact wrF_out h1 (by unfold wrN; rw [if_pos ew]; omega)
    · rfl
theorem gdE_zero {t : Tk} (e : gdE hi len st en f t = 0) : lenG t = true ∧ 1 ≤ t.siz ∧ 0 ≤ gdn hi st en f t ∧ (en : Int) + t.siz + gdn hi st en f t ≤ len := by
  unfold gdE at e
  split at e
  · rename_i hg
    obtain ⟨hs, hp⟩ := goods_ok (len_ok hg)
    split at e
    · rcases clE_cases len (en + t.siz.toNat) (gdn hi st en f t) with ⟨e2, _⟩ | ⟨e2, _⟩ | ⟨_, h0, h1⟩
      · rw [e2] at e; cases e
      · rw [e2] at e; cases e
      · exact ⟨hg, hs.1, h0, by omega⟩
    · rename_i h2
      exact absurd e h2
  · cases e
theorem wi_gd (h : en ≤ len) (t : Tk) : Wi len st en f (gdE hi len st en f t) (gdN hi len st en f t) f := by
  refine ⟨?_, ?_, fun e => ⟨by unfold gdN; rw [if_neg e], rfl⟩, fun _ _ => rfl⟩
  · unfold gdN; split <;> omega
  · unfold gdN
    split
    · rename_i e
      have := gdE_zero e
      omega
    · exact h
theorem op_wi (h1 : st ≤ en) (h : en ≤ len) (o : Op1) : Wi len st en f (opE hi len st en f o) (opN hi len st en f o) (opF hi len st en f o) := by
  have hk : (o.k < 0 ∨ 11 ≤ o.k) ∨ o.k = 0 ∨ o.k = 1 ∨ o.k = 2 ∨ o.k = 3 ∨ o.k = 4 ∨ o.k = 5 ∨ o.k = 6 ∨ o.k = 7 ∨ o.k = 8 ∨ o.k = 9 ∨ o.k = 10 := by omega
  unfold opE opN opF
  rcases hk with hk | hk | hk | hk | hk | hk | hk | hk | hk | hk | hk | hk
  · rw [if_neg (by omega), if_neg (by omega), if_neg (by omega), if_neg (by omega), if_neg (by omega), if_neg (by omega), if_neg (by omega), if_neg (by omega), if_neg (by omega), if_neg (by omega), if_neg (by omega), if_neg (by omega), if_neg (by omega), if_neg (by omega), if_neg (by omega), if_neg (by omega), if_neg (by omega), if_neg (by omega), if_neg (by omega), if_neg (by omega), if_neg (by omega), if_neg (by omega), if_neg (by omega)]
    exact wi_same h _
  all_goals rw [hk]
  · exact wi_cl h o.n
  · exact wi_same h _
  · exact wi_put h _ _ _
  · exact wi_same h _
  · exact wi_set h _ _ _
  · exact wi_pw _ h1 h _ _
  · exact wi_gw _ h _
  · exact wi_pw _ h1 h _ _
  · exact wi_gw _ h _
  · exact wi_pd h1 h _ _
  · exact wi_gd h _
theorem op_reads {o : Op1} (hw : opW o = false) : opF hi len st en f o = f := by
  have := of_decide_eq_false hw
  unfold opF
  rw [if_neg (by omega), if_neg (by omega), if_neg (by omega), if_neg (by omega), if_neg (by omega)]
end
end Go.Proofs.YtfhphjgcmbneeaaDoor

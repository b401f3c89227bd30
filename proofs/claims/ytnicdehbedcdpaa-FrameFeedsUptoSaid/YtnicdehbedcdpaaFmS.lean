/- Streams of good frames: the mathematics. -/
import Derived.Test.YtnicdehbedcdpaaFmL
namespace Go.Proofs.Ytnicdehbedcdpaa
open Go.ChangeShapes Go.WideShapes Go.ChangeAt Go.RowKit

def szP (p : Pcl) : Nat := p.b.size + 6
def frP (p : Pcl) : List Nat := hdL (szP p) p.t.toNat ++ lOf p.b
/-- A good parcel. -/
structure Gd (p : Pcl) : Prop where
  t : p.t = 23520 ∨ p.t = 60240
  b : p.b.size ≤ 300
theorem frP_length (p : Pcl) : (frP p).length = szP p := by
  unfold frP szP
  rw [List.length_append, lOf_length]
  show 6 + _ = _
  omega
def strm (l : List Pcl) : List Nat := l.flatMap frP
def szs (l : List Pcl) : Nat := (l.map szP).sum
theorem strm_length (l : List Pcl) : (strm l).length = szs l := by
  induction l with
  | nil => rfl
  | cons p r ih =>
    unfold strm szs at *
    rw [List.flatMap_cons, List.length_append, ih, frP_length, List.map_cons, List.sum_cons]
theorem strm_cons (p : Pcl) (r : List Pcl) : strm (p :: r) = frP p ++ strm r := by unfold strm; rw [List.flatMap_cons]
theorem szs_cons (p : Pcl) (r : List Pcl) : szs (p :: r) = szP p + szs r := by unfold szs; rw [List.map_cons, List.sum_cons]
theorem szs_append (a b : List Pcl) : szs (a ++ b) = szs a + szs b := by unfold szs; rw [List.map_append, List.sum_append]
theorem strm_append (a b : List Pcl) : strm (a ++ b) = strm a ++ strm b := by unfold strm; rw [List.flatMap_append]
theorem frP_lt (p : Pcl) : ∀ b ∈ frP p, b < 256 := by
  intro b hb
  unfold frP hdL at hb
  rcases List.mem_append.1 hb with hb | hb
  · simp only [List.mem_cons, List.not_mem_nil, or_false] at hb
    omega
  · exact lOf_lt _ b hb
theorem strm_lt (l : List Pcl) : ∀ b ∈ strm l, b < 256 := by
  intro b hb
  obtain ⟨p, _, h⟩ := List.mem_flatMap.1 hb
  exact frP_lt p b h
theorem hd_ln (n t : Nat) (X : List Nat) (hn : n < 4294967296) : nm ((hdL n t ++ X).take 4) = n := by
  simp [hdL, nm, nmF]
  omega
theorem hd_kd (n t : Nat) (X : List Nat) (ht : t < 65536) : nm (((hdL n t ++ X).drop 4).take 2) = t := by
  simp [hdL, nm, nmF]
  omega
theorem Gd.toNat {p : Pcl} (h : Gd p) : ((p.t.toNat : Nat) : Int) = p.t ∧ p.t.toNat < 65536 := by
  rcases h.t with e | e <;> rw [e] <;> decide
theorem Gd.kn {p : Pcl} (h : Gd p) : knB p.t = true := by
  unfold knB
  rcases h.t with e | e <;> simp [e]
theorem lk_fr {p : Pcl} (h : Gd p) (lim : Int) (X : List Nat) : lkZ lim (frP p ++ X) = if lim < (szP p : Int) then 2 else 1 := by
  have hb := h.b
  have hs : szP p < 4294967296 := by unfold szP; omega
  have hl : (frP p ++ X).length = szP p + X.length := by rw [List.length_append, frP_length]
  have e1 : lnZ (frP p ++ X) = szP p := by unfold lnZ frP; rw [List.append_assoc]; exact hd_ln _ _ _ hs
  have e2 : ((kdZ (frP p ++ X) : Nat) : Int) = p.t := by
    unfold kdZ frP
    rw [List.append_assoc, hd_kd _ _ _ h.toNat.2]
    exact h.toNat.1
  have h6 : 6 ≤ szP p := by unfold szP; omega
  unfold lkZ
  rw [hl, e1, e2, if_neg (by omega)]
  by_cases h1 : lim < (szP p : Int)
  · rw [if_pos (.inr h1), if_pos h1]
  · rw [if_neg (by omega), if_neg h1, if_neg (by omega), if_neg (by rw [h.kn]; simp), if_neg (by omega)]
theorem pc_fr {p : Pcl} (h : Gd p) (X : List Nat) : lnZ (frP p ++ X) = szP p ∧ pcZ (frP p ++ X) = p := by
  have hb := h.b
  have hs : szP p < 4294967296 := by unfold szP; omega
  have e1 : lnZ (frP p ++ X) = szP p := by unfold lnZ frP; rw [List.append_assoc]; exact hd_ln _ _ _ hs
  have e2 : ((kdZ (frP p ++ X) : Nat) : Int) = p.t := by
    unfold kdZ frP
    rw [List.append_assoc, hd_kd _ _ _ h.toNat.2]
    exact h.toNat.1
  refine ⟨e1, ?_⟩
  unfold pcZ
  rw [e1, e2, List.take_left' (frP_length p)]
  have : (frP p).drop 6 = lOf p.b := by unfold frP; rfl
  rw [this, sOf_lOf]
/-- A whole frame ahead. -/
theorem cut_fr {p : Pcl} (h : Gd p) {lim : Int} (hl : (szP p : Int) ≤ lim) (X : List Nat) : cutZ lim (frP p ++ X) = (p :: (cutZ lim X).1, szP p + (cutZ lim X).2.1, (cutZ lim X).2.2) := by
  have hk : lkZ lim (frP p ++ X) = 1 := by rw [lk_fr h, if_neg (by omega)]
  obtain ⟨e1, e2⟩ := pc_fr h X
  rw [cutZ_yes hk, e1, e2, List.drop_left' (frP_length p)]
/-- A frame that is too long ahead. -/
theorem cut_long {p : Pcl} (h : Gd p) {lim : Int} (hl : lim < (szP p : Int)) (X : List Nat) : cutZ lim (frP p ++ X) = ([], 0, 240) := by
  have hk : lkZ lim (frP p ++ X) = 2 := by rw [lk_fr h, if_pos hl]
  rw [cutZ_no (by rw [hk]; decide), hk]
  rfl
/-- A frame's beginning. -/
theorem cut_beg {p : Pcl} (h : Gd p) {lim : Int} (hl : (szP p : Int) ≤ lim) {m : Nat} (hm : m < szP p) : cutZ lim ((frP p).take m) = ([], 0, 0) := by
  have hlen : ((frP p).take m).length = m := by rw [List.length_take, frP_length]; omega
  have hs : szP p < 4294967296 := by have := h.b; unfold szP; omega
  have h6 : 6 ≤ szP p := by unfold szP; omega
  have e1 : 4 ≤ m → lnZ ((frP p).take m) = szP p := fun h4 => by
    unfold lnZ
    rw [List.take_take, Nat.min_eq_left h4]
    have := hd_ln (szP p) p.t.toNat (lOf p.b) hs
    exact this
  have e2 : 6 ≤ m → ((kdZ ((frP p).take m) : Nat) : Int) = p.t := fun h6 => by
    unfold kdZ
    rw [List.drop_take, List.take_take, Nat.min_eq_left (by omega)]
    have := hd_kd (szP p) p.t.toNat (lOf p.b) h.toNat.2
    have e : nm (((frP p).drop 4).take 2) = p.t.toNat := this
    rw [e]
    exact h.toNat.1
  have hk : lkZ lim ((frP p).take m) = 0 := by
    unfold lkZ
    rw [hlen]
    by_cases h4 : m < 4
    · rw [if_pos h4]
    · rw [if_neg h4, e1 (by omega), if_neg (by omega)]
      by_cases h5 : m < 6
      · rw [if_pos h5]
      · rw [if_neg h5, e2 (by omega), if_neg (by rw [h.kn]; simp), if_pos (by omega)]
  rw [cutZ_no (by rw [hk]; decide), hk]
  rfl
/-- How many whole frames there are in so many bytes. -/
def jN : List Pcl → Nat → Nat
  | [], _ => 0
  | p :: r, m => if szP p ≤ m then jN r (m - szP p) + 1 else 0
theorem jN_le : ∀ (l : List Pcl) (m : Nat), jN l m ≤ l.length
  | [], _ => Nat.le_refl _
  | p :: r, m => by
    unfold jN
    split
    · have := jN_le r (m - szP p); simp; omega
    · omega
theorem jN_szs : ∀ (l : List Pcl) (m : Nat), szs (l.take (jN l m)) ≤ m
  | [], m => by simp [szs]
  | p :: r, m => by
    unfold jN
    split
    · have := jN_szs r (m - szP p)
      rw [List.take_succ_cons, szs_cons]
      omega
    · rw [List.take_zero]; exact Nat.zero_le _
/-- .. and behind them no whole one. -/
theorem jN_next : ∀ (l : List Pcl) (m : Nat) (p : Pcl), l[jN l m]? = some p → m < szs (l.take (jN l m)) + szP p
  | [], m, p, h => by cases h
  | q :: r, m, p, h => by
    unfold jN at h ⊢
    split
    · rename_i h1
      rw [if_pos h1, List.getElem?_cons_succ] at h
      have := jN_next r (m - szP q) p h
      rw [List.take_succ_cons, szs_cons]
      omega
    · rename_i h1
      rw [if_neg h1] at h
      cases h
      rw [List.take_zero]
      show m < 0 + _
      omega
/-- The front of a stream of good frames. -/
theorem cut_strm (lim : Int) : ∀ (l : List Pcl) (m : Nat), (∀ p ∈ l, Gd p ∧ (szP p : Int) ≤ lim) → m ≤ szs l → cutZ lim ((strm l).take m) = (l.take (jN l m), szs (l.take (jN l m)), 0)
  | [], m, _, _ => by
    show cutZ lim ([].take m) = _
    rw [List.take_nil, cutZ_no (by unfold lkZ; simp)]
    unfold lkZ
    simp [jN, szs, erZ]
  | p :: r, m, h, hm => by
    obtain ⟨hg, hl⟩ := h p (List.mem_cons_self ..)
    rw [szs_cons] at hm
    rw [strm_cons]
    by_cases h1 : szP p ≤ m
    · have ih := cut_strm lim r (m - szP p) (fun q hq => h q (List.mem_cons_of_mem _ hq)) (by omega)
      rw [List.take_append, frP_length, List.take_of_length_le (by rw [frP_length]; exact h1), cut_fr hg hl, ih]
      have e : jN (p :: r) m = jN r (m - szP p) + 1 := by rw [jN, if_pos h1]
      rw [e, List.take_succ_cons, szs_cons]
    · rw [List.take_append_of_le_length (by rw [frP_length]; omega), cut_beg hg hl (by omega)]
      have e : jN (p :: r) m = 0 := by rw [jN, if_neg h1]
      rw [e, List.take_zero]
      rfl
/-- All of a stream, and what is behind it. -/
theorem cut_all (lim : Int) (X : List Nat) : ∀ (l : List Pcl), (∀ p ∈ l, Gd p ∧ (szP p : Int) ≤ lim) → cutZ lim (strm l ++ X) = (l ++ (cutZ lim X).1, szs l + (cutZ lim X).2.1, (cutZ lim X).2.2)
  | [], _ => by show cutZ lim ([] ++ X) = _; simp [szs]
  | p :: r, h => by
    obtain ⟨hg, hl⟩ := h p (List.mem_cons_self ..)
    rw [strm_cons, List.append_assoc, cut_fr hg hl, cut_all lim X r (fun q hq => h q (List.mem_cons_of_mem _ hq)), szs_cons]
    simp only [List.cons_append, Prod.mk.injEq, true_and, and_true]
    omega
/-- With a limit that is too low. -/
theorem cut_low (lim : Int) : ∀ (l : List Pcl), (∀ p ∈ l, Gd p) → (∃ p ∈ l, lim < (szP p : Int)) → ∃ j p, l[j]? = some p ∧ lim < (szP p : Int) ∧ (∀ q ∈ l.take j, (szP q : Int) ≤ lim) ∧ (cutZ lim (strm l)).1 = l.take j ∧ (cutZ lim (strm l)).2.2 = 240
  | [], _, h => by obtain ⟨p, hp, _⟩ := h; cases hp
  | p :: r, hg, h => by
    rw [strm_cons]
    by_cases h1 : lim < (szP p : Int)
    · rw [cut_long (hg p (List.mem_cons_self ..)) h1]
      exact ⟨0, p, rfl, h1, (fun q hq => by cases hq), rfl, rfl⟩
    · have hr : ∃ q ∈ r, lim < (szP q : Int) := by
        obtain ⟨q, hq, h2⟩ := h
        rcases List.mem_cons.1 hq with rfl | hq
        · exact absurd h2 h1
        · exact ⟨q, hq, h2⟩
      obtain ⟨j, q, e1, e2, e3, e4, e5⟩ := cut_low lim r (fun q hq => hg q (List.mem_cons_of_mem _ hq)) hr
      rw [cut_fr (hg p (List.mem_cons_self ..)) (by omega)]
      refine ⟨j + 1, q, e1, e2, fun x hx => ?_, by rw [List.take_succ_cons, e4], e5⟩
      rw [List.take_succ_cons] at hx
      rcases List.mem_cons.1 hx with rfl | hx
      · omega
      · exact e3 x hx
end Go.Proofs.Ytnicdehbedcdpaa

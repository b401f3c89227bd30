/- TMk, TNs, TKv, TRz, TRr. -/
import Derived.Test.YtchfphakhmifmabGreatDoorTA1
import Derived.Test.YtchfphakhmifmabGreatDoorTN1
import Derived.RangeFuncNested
import Derived.RangeFuncBox
import Derived.RangeFuncLeaves
import Derived.Shelf.Abstract
import Derived.OwnWalkIn
import Derived.TacticsInMore
import Derived.LoopNIn
import Derived.LoopIn
import Derived.Sort.QuietIn
namespace Go.Proofs.YtchfphakhmifmabGreatDoor
open Go.ChangeShapes Go.WideShapes Go.ChangeAt Go.RowKit

theorem attCells_length (al : List Att) : (attCells al).length = al.length * 3 := by
  induction al with
  | nil => rfl
  | cons a r ih =>
    unfold attCells at ih ⊢
    rw [List.flatMap_cons, List.length_append, ih, List.length_cons]
    show 3 + _ = _
    omega
theorem attCells_one (al : List Att) : ∀ u ∈ attCells al, u.oneCell' = true := by
  intro u hu
  obtain ⟨a, _, h⟩ := List.mem_flatMap.1 hu
  simp only [attC, List.mem_cons, List.not_mem_nil, or_false] at h
  rcases h with rfl | rfl | rfl <;> rfl
/-- The kids of an element, by the document. -/
def kidsG (d : Int) : List El → Nat → List Nat
  | [], _ => []
  | e :: r, k => if d < e.d then (if e.d = d + 1 then k :: kidsG d r (k + 1) else kidsG d r (k + 1)) else []
def kidsN (es : List El) (i : Int) : List Nat :=
  if 0 ≤ i then (match es[i.toNat]? with
    | some e => kidsG e.d (es.drop (i.toNat + 1)) (i.toNat + 1)
    | none => []) else []
theorem kidsG_length (d : Int) : ∀ (r : List El) (k : Nat), (kidsG d r k).length ≤ r.length
  | [], _ => Nat.le_refl _
  | e :: r, k => by
    have ih := kidsG_length d r (k + 1)
    simp only [kidsG]
    split
    · split
      · rw [List.length_cons, List.length_cons]; omega
      · rw [List.length_cons]; omega
    · exact Nat.zero_le _
theorem kidsG_mem (d : Int) : ∀ (r : List El) (k x : Nat), x ∈ kidsG d r k → k ≤ x ∧ x < k + r.length
  | [], _, _, h => by cases h
  | e :: r, k, x, h => by
    simp only [kidsG] at h
    rw [List.length_cons]
    split at h
    · split at h
      · rcases List.mem_cons.1 h with rfl | h
        · omega
        · have := kidsG_mem d r (k + 1) x h; omega
      · have := kidsG_mem d r (k + 1) x h; omega
    · cases h
theorem kidsN_length (es : List El) (i : Int) : (kidsN es i).length ≤ es.length := by
  unfold kidsN
  split
  · split
    · have := kidsG_length
      rename_i e _
      have := this e.d (es.drop (i.toNat + 1)) (i.toNat + 1)
      rw [List.length_drop] at this
      omega
    · exact Nat.zero_le _
  · exact Nat.zero_le _
theorem kidsN_mem (es : List El) (i : Int) (x : Nat) (h : x ∈ kidsN es i) : x < es.length := by
  unfold kidsN at h
  split at h
  · split at h
    · rename_i e he
      have hl := (List.getElem?_eq_some_iff.1 he).1
      have := kidsG_mem e.d (es.drop (i.toNat + 1)) (i.toNat + 1) x h
      rw [List.length_drop] at this
      omega
    · cases h
  · cases h
theorem infoI : ∃ i, Tryz.prog.info? 3 = some i ∧ i.zero = some (.int .i64 0) ∧ i.size = 1 ∧ i.bytes = 8 := by
  have h : (Tryz.prog.info? 3).map (fun i => (i.zero, i.size, i.bytes)) = some (some (.int .i64 0), 1, 8) := by kernel_rfl
  obtain ⟨i, hi, hz⟩ := Option.map_eq_some_iff.1 h
  simp only [Prod.mk.injEq] at hz
  exact ⟨i, hi, hz.1, hz.2.1, hz.2.2⟩
end Go.Proofs.YtchfphakhmifmabGreatDoor
namespace Go.Proofs.YtchfphakhmifmabGreatDoor

/-- The kids' places rise. -/
theorem kidsG_rise (d : Int) : ∀ (r : List El) (k : Nat), (kidsG d r k).Pairwise (· < ·)
  | [], _ => List.Pairwise.nil
  | e :: r, k => by
    have ih := kidsG_rise d r (k + 1)
    simp only [kidsG]
    split
    · split
      · refine List.Pairwise.cons (fun x hx => ?_) ih
        have := kidsG_mem d r (k + 1) x hx
        omega
      · exact ih
    · exact List.Pairwise.nil
/-- Which are kids: one deeper, and all ahead of them deeper. -/
theorem kidsG_iff (d : Int) : ∀ (r : List El) (k x : Nat), x ∈ kidsG d r k ↔ (∃ e, k ≤ x ∧ r[x - k]? = some e ∧ e.d = d + 1) ∧ ∀ j e, k + j ≤ x → r[j]? = some e → d < e.d
  | [], k, x => by simp [kidsG]
  | e :: r, k, x => by
    have ih := kidsG_iff d r (k + 1) x
    simp only [kidsG]
    by_cases h1 : d < e.d
    · rw [if_pos h1]
      have hrest : (x ∈ kidsG d r (k + 1)) ↔ (∃ y, k + 1 ≤ x ∧ (e :: r)[x - k]? = some y ∧ y.d = d + 1) ∧ ∀ j y, k + j ≤ x → (e :: r)[j]? = some y → d < y.d := by
        rw [ih]
        constructor
        · rintro ⟨⟨y, a, b, c⟩, f⟩
          refine ⟨⟨y, a, ?_, c⟩, fun j z hj hz => ?_⟩
          · rw [show x - k = (x - (k + 1)) + 1 by omega, List.getElem?_cons_succ]; exact b
          · cases j with
            | zero => simp at hz; subst hz; exact h1
            | succ j => rw [List.getElem?_cons_succ] at hz; exact f j z (by omega) hz
        · rintro ⟨⟨y, a, b, c⟩, f⟩
          refine ⟨⟨y, a, ?_, c⟩, fun j z hj hz => f (j + 1) z (by omega) (by rw [List.getElem?_cons_succ]; exact hz)⟩
          rw [show x - k = (x - (k + 1)) + 1 by omega, List.getElem?_cons_succ] at b; exact b
      by_cases h2 : e.d = d + 1
      · rw [if_pos h2, List.mem_cons, hrest]
        constructor
        · rintro (rfl | ⟨⟨y, a, b, c⟩, f⟩)
          · refine ⟨⟨e, Nat.le_refl _, by simp, h2⟩, fun j z hj hz => ?_⟩
            obtain rfl : j = 0 := by omega
            simp at hz; subst hz; exact h1
          · exact ⟨⟨y, by omega, b, c⟩, f⟩
        · rintro ⟨⟨y, a, b, c⟩, f⟩
          by_cases hx : x = k
          · exact .inl hx
          · exact .inr ⟨⟨y, by omega, b, c⟩, f⟩
      · rw [if_neg h2, hrest]
        constructor
        · rintro ⟨⟨y, a, b, c⟩, f⟩
          exact ⟨⟨y, by omega, b, c⟩, f⟩
        · rintro ⟨⟨y, a, b, c⟩, f⟩
          refine ⟨⟨y, ?_, b, c⟩, f⟩
          by_cases hx : x = k
          · subst hx
            rw [Nat.sub_self] at b
            simp at b; subst b
            exact absurd c h2
          · omega
    · rw [if_neg h1]
      constructor
      · intro h; cases h
      · rintro ⟨⟨y, a, _⟩, f⟩
        exact absurd (f 0 e (by omega) (by simp)) h1
def kidsA (es : List El) (i : Nat) : List Nat := match es[i]? with
  | some e => kidsG e.d (es.drop (i + 1)) (i + 1)
  | none => []
theorem kidsA_iff {es : List El} {i : Nat} {a : El} (ha : es[i]? = some a) (x : Nat) : x ∈ kidsA es i ↔ (∃ e, i < x ∧ es[x]? = some e ∧ e.d = a.d + 1) ∧ ∀ j e, i < j → j ≤ x → es[j]? = some e → a.d < e.d := by
  unfold kidsA
  rw [ha]
  simp only
  rw [kidsG_iff]
  constructor
  · rintro ⟨⟨e, h1, h2, h3⟩, f⟩
    refine ⟨⟨e, by omega, ?_, h3⟩, fun j y hj hx hy => f (j - (i + 1)) y (by omega) ?_⟩
    · rw [List.getElem?_drop, show i + 1 + (x - (i + 1)) = x by omega] at h2; exact h2
    · rw [List.getElem?_drop, show i + 1 + (j - (i + 1)) = j by omega]; exact hy
  · rintro ⟨⟨e, h1, h2, h3⟩, f⟩
    refine ⟨⟨e, h1, ?_, h3⟩, fun j y hj hy => f (i + 1 + j) y (by omega) (by omega) ?_⟩
    · rw [List.getElem?_drop, show i + 1 + (x - (i + 1)) = x by omega]; exact h2
    · rw [List.getElem?_drop] at hy; exact hy
theorem kid_one {es : List El} {i i' x : Nat} {a b : El} (ha : es[i]? = some a) (hb : es[i']? = some b) (h : x ∈ kidsA es i) (h' : x ∈ kidsA es i') (hlt : i < i') : False := by
  obtain ⟨⟨e, h1, h2, h3⟩, f⟩ := (kidsA_iff ha x).1 h
  obtain ⟨⟨e', h1', h2', h3'⟩, -⟩ := (kidsA_iff hb x).1 h'
  rw [h2] at h2'
  cases h2'
  have := f i' b hlt (by omega) hb
  omega
theorem kid_ex {es : List El} (hd : Dep es) {x : Nat} {e : El} (hx : es[x]? = some e) (h0 : 0 < x) : ∃ i, i < x ∧ x ∈ kidsA es i := by
  have hlen := (List.getElem?_eq_some_iff.1 hx).1
  -- the greatest place ahead that is less deep
  have hge : 2 ≤ e.d := by
    obtain ⟨y, rfl⟩ : ∃ y, x = y + 1 := ⟨x - 1, by omega⟩
    obtain ⟨a, ha⟩ : ∃ a, es[y]? = some a := ⟨es[y], List.getElem?_eq_getElem (by omega)⟩
    exact (hd.s y a e ha hx).1
  have look : ∀ m, m ≤ x → (∀ j y, x - m ≤ j → j < x → es[j]? = some y → e.d ≤ y.d) ∨ ∃ i a, i < x ∧ es[i]? = some a ∧ a.d < e.d ∧ ∀ j y, i < j → j < x → es[j]? = some y → e.d ≤ y.d := by
    intro m
    induction m with
    | zero => intro _; exact .inl fun j y h1 h2 _ => by omega
    | succ m ih =>
      intro hm
      rcases ih (by omega) with h | h
      · obtain ⟨a, ha⟩ : ∃ a, es[x - (m + 1)]? = some a := ⟨es[x - (m + 1)], List.getElem?_eq_getElem (by omega)⟩
        by_cases hl : a.d < e.d
        · exact .inr ⟨x - (m + 1), a, by omega, ha, hl, fun j y h1 h2 hy => h j y (by omega) h2 hy⟩
        · refine .inl fun j y h1 h2 hy => ?_
          by_cases hj : j = x - (m + 1)
          · subst hj; rw [ha] at hy; cases hy; omega
          · exact h j y (by omega) h2 hy
      · exact .inr h
  rcases look x (Nat.le_refl _) with h | ⟨i, a, hi, ha, hl, h⟩
  · exfalso
    obtain ⟨a, ha⟩ : ∃ a, es[0]? = some a := ⟨es[0], List.getElem?_eq_getElem (by omega)⟩
    have := h 0 a (by omega) h0 ha
    have := hd.z a ha
    omega
  · refine ⟨i, hi, (kidsA_iff ha x).2 ⟨⟨e, hi, hx, ?_⟩, fun j y h1 h2 hy => ?_⟩⟩
    · by_cases hx1 : x = i + 1
      · subst hx1
        have := (hd.s i a e ha hx).2
        omega
      · obtain ⟨b, hb⟩ : ∃ b, es[i + 1]? = some b := ⟨es[i + 1], List.getElem?_eq_getElem (by omega)⟩
        have := (hd.s i a b ha hb).2
        have := h (i + 1) b (by omega) (by omega) hb
        omega
    · by_cases hj : j = x
      · subst hj; rw [hx] at hy; cases hy; exact hl
      · have := h j y h1 (by omega) hy
        omega
/-- How many aren't 0. -/
def nz : List Nat → Nat
  | [] => 0
  | a :: r => (if a = 0 then 0 else 1) + nz r
theorem nz_set : ∀ (l : List Nat) (k v : Nat), l[k]? = some 0 → 0 < v → nz (l.set k v) = nz l + 1
  | [], _, _, h, _ => by cases h
  | a :: r, 0, v, h, hv => by
    simp at h; subst h
    simp only [List.set_cons_zero, nz]
    rw [if_neg (by omega), if_pos trivial]
    omega
  | a :: r, k + 1, v, h, hv => by
    rw [List.getElem?_cons_succ] at h
    simp only [List.set_cons_succ, nz]
    have := nz_set r k v h hv
    omega
theorem nz_all : ∀ (l : List Nat), (∀ (k v : Nat), l[k]? = some v → 0 < v) → nz l = l.length
  | [], _ => rfl
  | a :: r, h => by
    have h0 := h 0 a (by simp)
    have ih := nz_all r fun k v hk => h (k + 1) v (by rw [List.getElem?_cons_succ]; exact hk)
    simp only [nz, List.length_cons]
    rw [if_neg (by omega), ih]
    omega
theorem nz_le : ∀ (l : List Nat), nz l ≤ l.length
  | [] => Nat.le_refl _
  | a :: r => by
    have := nz_le r
    simp only [nz, List.length_cons]
    split <;> omega
theorem nz_rep (n : Nat) : nz (List.replicate n 0) = 0 := by
  induction n with
  | zero => rfl
  | succ n ih => rw [List.replicate_succ]; simp only [nz]; rw [ih]; rfl
/-- The owners, when i elements have been asked and of the i-th the kids in pre. -/
structure Own (es : List El) (i : Nat) (pre O : List Nat) : Prop where
  l : O.length = es.length
  c : ∀ (k v : Nat), O[k]? = some v → (0 < v ↔ (∃ i', i' < i ∧ k ∈ kidsA es i') ∨ k ∈ pre)
theorem Own.start (es : List El) : Own es 0 [] (List.replicate es.length 0) :=
  ⟨by simp, fun k v h => by
    rw [List.getElem?_replicate] at h
    split at h
    · cases h; simp
    · cases h⟩
theorem kidsA_lt {es : List El} {i x : Nat} (h : x ∈ kidsA es i) : i < x ∧ x < es.length ∧ i < es.length := by
  cases ha : es[i]? with
  | none => unfold kidsA at h; rw [ha] at h; cases h
  | some a =>
    obtain ⟨⟨e, h1, h2, -⟩, -⟩ := (kidsA_iff ha x).1 h
    have := (List.getElem?_eq_some_iff.1 h2).1
    omega
theorem Own.free {es : List El} {i x : Nat} {pre post O : List Nat} (h : Own es i pre O) (hk : kidsA es i = pre ++ x :: post) : O[x]? = some 0 := by
  have hm : x ∈ kidsA es i := by rw [hk]; simp
  obtain ⟨h1, h2, h3⟩ := kidsA_lt hm
  obtain ⟨v, hv⟩ : ∃ v, O[x]? = some v := ⟨O[x]'(by rw [h.l]; exact h2), List.getElem?_eq_getElem _⟩
  rcases Nat.eq_zero_or_pos v with rfl | hp
  · exact hv
  · exfalso
    obtain ⟨a, ha⟩ : ∃ a, es[i]? = some a := ⟨es[i], List.getElem?_eq_getElem h3⟩
    rcases (h.c x v hv).1 hp with ⟨i', hi', hx'⟩ | hx'
    · obtain ⟨-, -, h4⟩ := kidsA_lt hx'
      exact kid_one (List.getElem?_eq_getElem h4) ha hx' hm hi'
    · have hr : (kidsA es i).Pairwise (· < ·) := by unfold kidsA; rw [ha]; exact kidsG_rise _ _ _
      rw [hk, List.pairwise_append] at hr
      exact Nat.lt_irrefl _ (hr.2.2 x hx' x (List.mem_cons_self ..))
theorem Own.step {es : List El} {i x : Nat} {pre post O : List Nat} (h : Own es i pre O) (hk : kidsA es i = pre ++ x :: post) : Own es i (pre ++ [x]) (O.set x (i + 1)) ∧ nz (O.set x (i + 1)) = nz O + 1 := by
  refine ⟨⟨by rw [List.length_set]; exact h.l, fun k v hv => ?_⟩, nz_set O x (i + 1) (h.free hk) (by omega)⟩
  rw [List.getElem?_set] at hv
  by_cases hx : x = k
  · rw [if_pos hx] at hv
    split at hv
    · cases hv
      subst hx
      constructor
      · intro _; exact .inr (by simp)
      · intro _; omega
    · cases hv
  · rw [if_neg hx] at hv
    rw [h.c k v hv]
    constructor
    · rintro (a | a)
      · exact .inl a
      · exact .inr (by simp [a])
    · rintro (a | a)
      · exact .inl a
      · refine .inr ?_
        rcases List.mem_append.1 a with a | a
        · exact a
        · simp at a; exact absurd a.symm hx
theorem Own.next {es : List El} {i : Nat} {O : List Nat} (h : Own es i (kidsA es i) O) : Own es (i + 1) [] O :=
  ⟨h.l, fun k v hv => by
    rw [h.c k v hv]
    constructor
    · rintro (⟨i', a, b⟩ | a)
      · exact .inl ⟨i', by omega, b⟩
      · exact .inl ⟨i, by omega, a⟩
    · rintro (⟨i', a, b⟩ | a)
      · by_cases hi : i' = i
        · subst hi; exact .inr b
        · exact .inl ⟨i', by omega, b⟩
      · cases a⟩
theorem Own.done {es : List El} {O : List Nat} (hd : Dep es) (hne : 0 < es.length) (h : Own es es.length [] O) : nz O + 1 = es.length := by
  have hl := h.l
  cases O with
  | nil => simp at hl; omega
  | cons a r =>
    have ha : a = 0 := by
      rcases Nat.eq_zero_or_pos a with h0 | hp
      · exact h0
      · rcases (h.c 0 a (by simp)).1 hp with ⟨i', _, hx⟩ | hx
        · have := kidsA_lt hx; omega
        · cases hx
    subst ha
    have hr : nz r = r.length := nz_all r fun k v hv => by
      have hk : k + 1 < es.length := by
        have := (List.getElem?_eq_some_iff.1 hv).1
        rw [← hl, List.length_cons]; omega
      refine (h.c (k + 1) v (by rw [List.getElem?_cons_succ]; exact hv)).2 (.inl ?_)
      obtain ⟨i, hi, hm⟩ := kid_ex hd (List.getElem?_eq_getElem hk) (by omega)
      exact ⟨i, by omega, hm⟩
    simp only [nz]
    rw [if_pos trivial, hr]
    rw [List.length_cons] at hl
    omega
end Go.Proofs.YtchfphakhmifmabGreatDoor
namespace Go.Proofs.YtchfphakhmifmabGreatDoor
open Go.ChangeShapes Go.WideShapes Go.ChangeAt Go.RowKit Go.Shelf


theorem tdr {B n : Nat} {a w : World} (h : Below B a w) : Below B a (w.drewN n) := by
  exact ⟨h.os, h.tape, h.output, h.size, h.block⟩
theorem thn (w : World) (o : Obj) : (w.alloc o).heap[w.heap.size]? = some o := by
  show (w.heap.push o)[w.heap.size]? = some o
  simp
theorem kidsN_at {es : List El} {k : Nat} {e : El} (he : es[k]? = some e) : kidsN es (k : Int) = kidsG e.d (es.drop (k + 1)) (k + 1) := by
  unfold kidsN
  rw [if_pos (by omega), Int.toNat_natCast, he]
theorem drop_at {α : Type} {l : List α} {n : Nat} {x : α} (h : l[n]? = some x) : l.drop n = x :: l.drop (n + 1) := by
  obtain ⟨hl, e⟩ := List.getElem?_eq_some_iff.1 h
  rw [List.drop_eq_getElem_cons hl, e]
theorem NRow.snoc {W' : World} {base : Nat} {v' : Value} {ns : List Nat} {n : Nat} (h : W'.ownsRow base 3 1 v' (ns.length + 1) (ns.map cI ++ [.int .i64 (n : Int)])) : NRow W' base v' (ns ++ [n]) := by
  unfold NRow
  rw [List.length_append, List.map_append]
  exact h
theorem own_ge {w : World} {base : Nat} {e : TypeId} {size : Nat} {v : Value} {n : Nat} {xs : List Value} (h : w.ownsRow base e size v n xs) : ∀ k, v.ownBlock = some k → base ≤ k := fun k hk => (h.lt k hk).1

set_option maxRecDepth 100000 in
set_option maxHeartbeats 2000000 in
theorem kidsAt_any (pp : Option Addr) (cp : Nat) (es : List El) (i : Int) (w : World) (hr : ERow w pp w.heap.size es) (hl : es.length * 72 ≤ 140737488351232) (hd : ∀ e ∈ es, -9223372036854775808 ≤ e.d ∧ e.d ≤ 9223372036854775807) (hi : i ≤ 9223372036854775807) :
    Calls Tryz.prog 24 #[.slice pp es.length cp, .int .i64 i] w fun e w' => ∃ v, e = .returned v ∧ NRow w' w.heap.size v (kidsN es i) ∧ Below w.heap.size w w' := by
  by_cases h0 : 0 ≤ i ∧ i < es.length
  · obtain ⟨k, rfl⟩ : ∃ k : Nat, i = k := ⟨i.toNat, by omega⟩
    have hk : k < es.length := by omega
    obtain ⟨x, hx⟩ : ∃ x, es[k]? = some x := ⟨es[k], List.getElem?_eq_getElem hk⟩
    have hN := kidsN_at hx
    have hlen := kidsN_length es k
    obtain ⟨i0, hi0, hz0, hz1, hz2⟩ := infoI
    generalize kidsN es (k : Int) = KN at *
    obtain ⟨g', o', pa', ca', ep', -, qk, -⟩ := hr.c k x hx
    have b1 : decide ((k : Int) < 0) = false := by simp
    have b2 : decide ((es.length : Int) ≤ k) = false := by simp; omega
    have b3 : decide (es.length ≤ k) = false := by simp; omega
    subst ep'
    go_enter Tryz.func24, Tryz.ntmps24
    go_wp2_with fail
    go_loopw [5, 7] (fun l n wr => ∃ (m : Nat) (ns : List Nat), k + 1 ≤ m ∧ m ≤ es.length ∧ n = .int .i64 m ∧ NRow wr w.heap.size l ns ∧ Below w.heap.size w wr ∧ ns ++ kidsG x.d (es.drop m) m = KN) (fun _ n _ => es.length - (RowKit.intOf n).toNat)
    case atStart => exact ⟨k + 1, [], Nat.le_refl _, hk, by go_num, World.ownsRow_nil _ _ _ 1, Below.refl _ _, hN.symm⟩
    case round =>
      obtain ⟨m, ns, hkm, hm, rfl, hR, hB, hZ⟩ := hrel
      have hr' := hr.below hB
      by_cases hlt : m < es.length
      · obtain ⟨y, hy⟩ : ∃ y, es[m]? = some y := ⟨es[m], List.getElem?_eq_getElem hlt⟩
        obtain ⟨g2, o2, pa2, ca2, e2, hg2, r0, -⟩ := hr'.c m y hy
        injection e2 with e2
        injection e2 with e2 e3
        subst e2 e3
        rw [drop_at hy] at hZ
        simp only [kidsG] at hZ
        have hym := hd y (List.mem_of_getElem? hy)
        have hxm := hd x (List.mem_of_getElem? hx)
        clear hN hr hr' hx hy hd
        obtain ⟨yd, _, _, _, _⟩ := y
        obtain ⟨xd, _, _, _, _⟩ := x
        simp only at r0 hZ hym hxm qk
        have hlt2 : (m : Int) < es.length := by omega
        by_cases h1 : xd < yd
        · rw [if_pos h1] at hZ
          have hwr : IntKind.i64.wrap (xd + 1) = xd + 1 := by rw [IntKind.wrap_i64]; omega
          by_cases h2 : yd = xd + 1
          · rw [if_pos h2] at hZ
            subst h2
            have hns : ns.length + 1 ≤ es.length := by rw [← hZ] at hlen; rw [List.length_append, List.length_cons] at hlen; omega
            have hR1 : NRow (wr.alloc (.cells #[.int .i64 (m : Int)] 3)) w.heap.size u5 ns := hR.below ((Below.refl _ wr).alloc (Nat.le_refl _) _)
            go_wp2_with (at_builtin; go_must (refine wpList_append_own _ rfl _ _ 26 rfl w.heap.size 3 i0 (.int .i64 0) 1 8 Tryz.underlying26 hi0 hz0 hz1 hz2 rfl (by decide) _ ns.length (ns.map cI) rfl hR1 ⟨wr.heap.size, 0, none⟩ 1 1 [.int .i64 (m : Int)] rfl rfl (cell_one_new _ _ _) (fun u hu => by cases hu with | head => rfl | tail _ h => cases h) (by simp only [maxLen]; omega) (by omega) (by have := hB.size; simp; omega) ?_); intro v' w2 hown' hgrow _)
            have hbe : Below w.heap.size wr w2 := ((Below.refl _ wr).alloc hB.size _).grown hgrow (by have := hB.size; simp; omega) (own_ge hR)
            go_roundw
            case rel => exact ⟨m + 1, ns ++ [m], by omega, by omega, by go_num, NRow.snoc hown', hB.trans hbe, by rw [List.append_assoc]; exact hZ⟩
            case measure => simp [RowKit.intOf]; omega
          · rw [if_neg h2] at hZ
            have h3 : (yd == xd + 1) = false := beq_eq_false_iff_ne.2 h2
            go_wp2_with fail
            go_wp2_with fail
            go_roundw
            case rel => exact ⟨m + 1, ns, by omega, by omega, by go_num, hR, hB, hZ⟩
            case measure => simp [RowKit.intOf]; omega
        · rw [if_neg h1, List.append_nil] at hZ
          go_wp2_with fail
          go_ret
          exact ⟨_, rfl, by rw [← hZ]; exact hR, hB⟩
      · obtain rfl : m = es.length := by omega
        go_wp2_with fail
        rw [List.drop_length] at hZ
        simp only [kidsG, List.append_nil] at hZ
        go_ret
        exact ⟨_, rfl, by rw [← hZ]; exact hR, hB⟩
  · have hN : kidsN es i = [] := by
      unfold kidsN
      split
      · rw [List.getElem?_eq_none (by omega)]
      · rfl
    rw [hN]
    by_cases h1 : 0 ≤ i
    · obtain ⟨k, rfl⟩ : ∃ k : Nat, i = k := ⟨i.toNat, by omega⟩
      have b1 : decide ((k : Int) < 0) = false := by simp
      have b2 : decide ((es.length : Int) ≤ k) = true := by simp; omega
      have b3 : decide (es.length ≤ k) = true := by simp; omega
      have b4 : es.length ≤ k := by omega
      go_enter Tryz.func24, Tryz.ntmps24
      go_wp2_with fail
      go_ret
      exact ⟨_, rfl, World.ownsRow_nil _ _ _ 1, Below.refl _ _⟩
    · have b1 : decide (i < 0) = true := by simp; omega
      have b2 : i < 0 := by omega
      go_enter Tryz.func24, Tryz.ntmps24
      go_wp2_with fail
      go_ret
      exact ⟨_, rfl, World.ownsRow_nil _ _ _ 1, Below.refl _ _⟩
/-- Kids: a function value; its box holds the list of places. -/
theorem Kids_any (pp : Option Addr) (cp : Nat) (es : List El) (i : Int) (w : World) (hr : ERow w pp w.heap.size es) (hl : es.length * 72 ≤ 140737488351232) (hd : ∀ e ∈ es, -9223372036854775808 ≤ e.d ∧ e.d ≤ 9223372036854775807) (hi : i ≤ 9223372036854775807) :
    Calls Tryz.prog 9 #[.slice pp es.length cp, .int .i64 i] w fun e w' => ∃ Bs v, e = .returned (.func (.func 40) #[] #[.pointer (some ⟨Bs, 0, none⟩)]) ∧ w.heap.size ≤ Bs ∧ w'.heap[Bs]? = some (.cells #[v] 26) ∧ NRow w' w.heap.size v (kidsN es i) ∧ Below w.heap.size w w' := by
  have hK := kidsAt_any pp cp es i w hr hl hd hi
  have hV : ∀ (a : Option Addr) (len cap : Nat) (w : World), Calls Tryz.prog 23 #[.slice a len cap] w fun e w' => e = .returned (.func (.func 40) #[] #[.pointer (some ⟨w.heap.size, 0, none⟩)]) ∧ w' = w.alloc (.cells #[.slice a len cap] 26) := by
    intro a len cap w
    go_enter Tryz.func23, Tryz.ntmps23
    go_wp2_with fail
    go_ret
    exact ⟨rfl, rfl⟩
  go_enter Tryz.func9, Tryz.ntmps9
  go_wp2_with (first
    | (go_at_call 24; refine hK.mono ?_; rintro e w1 ⟨v, rfl, hR, hB⟩; obtain ⟨pq, cq, rfl, -⟩ := hR.shape)
    | (go_at_call 23; refine (hV _ _ _ _).mono ?_; rintro e w2 ⟨rfl, rfl⟩))
  go_ret
  exact ⟨_, _, rfl, hB.size, thn w1 _, hR.below ((Below.refl _ _).alloc (Nat.le_refl _) _), hB.alloc hB.size _⟩
attribute [local go_sem] Oper.semAt_some
/-- The blocks from n₁ to n₂ are as they were. -/
def Kq (n₁ n₂ : Nat) (A B : World) : Prop := A.heap.size ≤ B.heap.size ∧ ∀ k, n₁ ≤ k → k < n₂ → B.heap[k]? = A.heap[k]?
theorem Kq.refl (n₁ n₂ : Nat) (A : World) : Kq n₁ n₂ A A := ⟨Nat.le_refl _, fun _ _ _ => rfl⟩
theorem Kq.trans {n₁ n₂ : Nat} {A B C : World} (h : Kq n₁ n₂ A B) (k : Kq n₁ n₂ B C) : Kq n₁ n₂ A C := ⟨Nat.le_trans h.1 k.1, fun j h1 h2 => (k.2 j h1 h2).trans (h.2 j h1 h2)⟩
theorem kq_b {n₁ n₂ : Nat} {w : World} (hn : n₂ ≤ w.heap.size) (W : World) (l : Nat) (o o' : Obj) (hl : w.heap.size ≤ l) (_ : W.heap[l]? = some o) (_ : o.isCells = false) (_ : o.isWalk = false) : Kq n₁ n₂ W (W.putObj l o') :=
  ⟨by simp [World.putObj], fun k _ h2 => World.putObj_heap_other (by omega)⟩

set_option maxRecDepth 100000 in
set_option maxHeartbeats 2000000 in
theorem vals_in2 (n l Bs n₁ n₂ : Nat) (zs : List Nat) (hreach : zs.length * 8 ≤ 140737488351232) (J Jx : List Nat → World → Prop)
    (hY : ∀ pre (x : Nat) W, J pre W → pre.length < zs.length → YieldAt Fence.wide (n - 1) Tryz.prog l #[.int .i64 (x : Int)] W fun e W' =>
      (e = .returned (.bool true) ∧ J (pre ++ [x]) W' ∧ Kq n₁ n₂ W W') ∨ (e = .returned (.bool false) ∧ Jx (pre ++ [x]) W'))
    (W : World) (pp : Option Addr) (cp : Nat) (hBs : W.cell? ⟨Bs, 0, none⟩ = some (.slice pp zs.length cp)) (hc : ∀ (j x : Nat), zs[j]? = some x → ∃ g, pp = some ⟨g, 0, none⟩ ∧ (n₁ ≤ g ∧ g < n₂) ∧ W.cell? ⟨g, j, none⟩ = some (.int .i64 (x : Int))) (h0 : J [] W) :
    CallsIn Fence.wide n Tryz.prog 40 #[.func (.yield l) #[] #[], .pointer (some ⟨Bs, 0, none⟩)] W fun e W' => (∃ v, e = .returned v) ∧
      ((∃ ys, ys = zs ∧ J ys W') ∨ (∃ pre, pre <+: zs ∧ Jx pre W')) := by
  refine callsIn_of_wp Tryz.func40 rfl trivial ?_ rfl
  simp only [Tryz.ntmps40, List.size_toArray, List.length_cons, List.length_nil, Nat.reduceAdd, Nat.reduceSub, Array.replicate_succ, Array.replicate_zero, List.push_toArray, List.append_toArray, List.nil_append, List.cons_append]
  gi_wp2
  gi_loopw [7] (fun i wr => ∃ k : Nat, k ≤ zs.length ∧ i = .int .i64 k ∧ J (zs.take k) wr ∧ Kq n₁ n₂ W wr)
    (fun i _ => zs.length - (intOf i).toNat)
  case atStart => exact ⟨0, Nat.zero_le _, rfl, h0, Kq.refl _ _ _⟩
  case round =>
    obtain ⟨k, hk, rfl, hJs, hnx⟩ := hrel
    by_cases hlt : k < zs.length
    · obtain ⟨x, hx⟩ : ∃ x, zs[k]? = some x := ⟨zs[k], List.getElem?_eq_getElem hlt⟩
      obtain ⟨g, rfl, hg, hcx0⟩ := hc k x hx
      have hcx := (World.cell?_of_block (a := ⟨g, k, none⟩) (hnx.2 g hg.1 hg.2)).trans hcx0
      obtain ⟨fn, tmps, assign, body, hy, hR⟩ := hY _ x wr hJs (by rw [List.length_take]; omega)
      have hsn : zs.take k ++ [x] = zs.take (k + 1) := by rw [List.take_add_one, hx]; rfl
      rw [hsn] at hR
      gi_wp2
      refine ⟨fun h => absurd h (by decide), hR.mono ?_⟩
      rintro e W3 (⟨rfl, hJ3, hk3⟩ | ⟨rfl, hJx3⟩)
      · gi_wp2
        go_roundw
        case rel => exact ⟨k + 1, by omega, by simp, hJ3, hnx.trans hk3⟩
        case measure => simp [intOf]; omega
      · gi_wp2
        refine bodyPost_ret (results_none rfl _ _ _) rfl ?_
        exact ⟨⟨_, rfl⟩, .inr ⟨_, List.take_prefix _ _, hJx3⟩⟩
    · obtain rfl : k = zs.length := by omega
      rw [List.take_length] at hJs
      gi_wp2
      go_end0
      exact ⟨⟨_, rfl⟩, .inl ⟨_, rfl, hJs⟩⟩
theorem vals_stops2 (n Bs n₁ n₂ : Nat) (zs : List Nat) (hreach : zs.length * 8 ≤ 140737488351232) (w : World) (hBs : Bs < w.heap.size) (hn₂ : n₂ ≤ w.heap.size) (pp : Option Addr) (cp : Nat) (h1 : w.cell? ⟨Bs, 0, none⟩ = some (.slice pp zs.length cp)) (h2 : ∀ (j x : Nat), zs[j]? = some x → ∃ g, pp = some ⟨g, 0, none⟩ ∧ (n₁ ≤ g ∧ g < n₂) ∧ w.cell? ⟨g, j, none⟩ = some (.int .i64 (x : Int))) :
    SeqStopsK Fence.wide n Tryz.prog 40 #[.pointer (some ⟨Bs, 0, none⟩)] (fun x : Nat => #[Value.int .i64 (x : Int)]) (Kq n₁ n₂) (fun ys => ys = zs) (fun pre => pre <+: zs) zs.length w := fun l J Jx W hW _ _ hY h0 => by
  refine vals_in2 n l Bs n₁ n₂ zs hreach J Jx hY W pp cp ((hW.cell (p := ⟨Bs, 0, none⟩) hBs).trans h1) (fun j x hx => ?_) h0
  obtain ⟨g, e, hg, hc⟩ := h2 j x hx
  exact ⟨g, e, hg, (hW.cell (p := ⟨g, j, none⟩) (by show g < w.heap.size; omega)).trans hc⟩
end Go.Proofs.YtchfphakhmifmabGreatDoor
namespace Go.Proofs.YtchfphakhmifmabGreatDoor
open Go.ChangeShapes Go.WideShapes Go.ChangeAt Go.RowKit Go.Shelf
attribute [local go_sem] Oper.semAt_some

set_option maxRecDepth 100000 in
set_option maxHeartbeats 2000000 in
theorem vals_inZ (n l Bs n₁ n₂ : Nat) (zs : List Nat) (hreach : zs.length * 8 ≤ 140737488351232) (J Jx : List Nat → World → Prop)
    (hY : ∀ pre (x : Nat) W, J pre W → (pre ++ [x]) <+: zs → YieldAt Fence.wide (n - 1) Tryz.prog l #[.int .i64 (x : Int)] W fun e W' =>
      (e = .returned (.bool true) ∧ J (pre ++ [x]) W' ∧ Kq n₁ n₂ W W') ∨ (e = .returned (.bool false) ∧ Jx (pre ++ [x]) W'))
    (W : World) (pp : Option Addr) (cp : Nat) (hBs : W.cell? ⟨Bs, 0, none⟩ = some (.slice pp zs.length cp)) (hc : ∀ (j x : Nat), zs[j]? = some x → ∃ g, pp = some ⟨g, 0, none⟩ ∧ (n₁ ≤ g ∧ g < n₂) ∧ W.cell? ⟨g, j, none⟩ = some (.int .i64 (x : Int))) (h0 : J [] W) :
    CallsIn Fence.wide n Tryz.prog 40 #[.func (.yield l) #[] #[], .pointer (some ⟨Bs, 0, none⟩)] W fun e W' => (∃ v, e = .returned v) ∧
      ((∃ ys, ys = zs ∧ J ys W') ∨ (∃ pre, pre <+: zs ∧ Jx pre W')) := by
  refine callsIn_of_wp Tryz.func40 rfl trivial ?_ rfl
  simp only [Tryz.ntmps40, List.size_toArray, List.length_cons, List.length_nil, Nat.reduceAdd, Nat.reduceSub, Array.replicate_succ, Array.replicate_zero, List.push_toArray, List.append_toArray, List.nil_append, List.cons_append]
  gi_wp2
  gi_loopw [7] (fun i wr => ∃ k : Nat, k ≤ zs.length ∧ i = .int .i64 k ∧ J (zs.take k) wr ∧ Kq n₁ n₂ W wr)
    (fun i _ => zs.length - (intOf i).toNat)
  case atStart => exact ⟨0, Nat.zero_le _, rfl, h0, Kq.refl _ _ _⟩
  case round =>
    obtain ⟨k, hk, rfl, hJs, hnx⟩ := hrel
    by_cases hlt : k < zs.length
    · obtain ⟨x, hx⟩ : ∃ x, zs[k]? = some x := ⟨zs[k], List.getElem?_eq_getElem hlt⟩
      obtain ⟨g, rfl, hg, hcx0⟩ := hc k x hx
      have hcx := (World.cell?_of_block (a := ⟨g, k, none⟩) (hnx.2 g hg.1 hg.2)).trans hcx0
      have hsn : zs.take k ++ [x] = zs.take (k + 1) := by rw [List.take_add_one, hx]; rfl
      obtain ⟨fn, tmps, assign, body, hy, hR⟩ := hY _ x wr hJs (by rw [hsn]; exact List.take_prefix _ _)
      rw [hsn] at hR
      gi_wp2
      refine ⟨fun h => absurd h (by decide), hR.mono ?_⟩
      rintro e W3 (⟨rfl, hJ3, hk3⟩ | ⟨rfl, hJx3⟩)
      · gi_wp2
        go_roundw
        case rel => exact ⟨k + 1, by omega, by simp, hJ3, hnx.trans hk3⟩
        case measure => simp [intOf]; omega
      · gi_wp2
        refine bodyPost_ret (results_none rfl _ _ _) rfl ?_
        exact ⟨⟨_, rfl⟩, .inr ⟨_, List.take_prefix _ _, hJx3⟩⟩
    · obtain rfl : k = zs.length := by omega
      rw [List.take_length] at hJs
      gi_wp2
      go_end0
      exact ⟨⟨_, rfl⟩, .inl ⟨_, rfl, hJs⟩⟩
/-- How the body of a round is left: it goes on. -/
def zPost (B n₁ n₂ : Nat) (I : List Nat → World → Prop) (xs : List Nat) (W : World) : Exit → Act → World → Prop
  | .normal, _, W' => KeepsFrom B W W' ∧ Kq n₁ n₂ W W' ∧ I xs W'
  | _, _, _ => False
theorem rangeZ {g : Operand} {ps : Array Tmp} {assign body : Code} {Q : Exit → Act → World → Prop} {a : Act} {w : World} {n Bs n₁ n₂ : Nat} {zs : List Nat}
    (hg : a.eval g = .func (.func 40) #[] #[.pointer (some ⟨Bs, 0, none⟩)]) (hps : ps.size = 1) (hreach : zs.length * 8 ≤ 140737488351232) (hn₂ : n₂ ≤ w.heap.size) (hBs : Bs < w.heap.size) (pp : Option Addr) (cp : Nat)
    (h1 : w.cell? ⟨Bs, 0, none⟩ = some (.slice pp zs.length cp)) (h2 : ∀ (j x : Nat), zs[j]? = some x → ∃ g, pp = some ⟨g, 0, none⟩ ∧ (n₁ ≤ g ∧ g < n₂) ∧ w.cell? ⟨g, j, none⟩ = some (.int .i64 (x : Int)))
    (I : List Nat → World → Prop) (hIa : ∀ pre W o, I pre W → w.heap.size ≤ W.heap.size → I pre (W.alloc o)) (hIp : ∀ pre W l o o', I pre W → w.heap.size ≤ l → W.heap[l]? = some o → o.isCells = false → I pre (W.putObj l o'))
    (h0 : I [] w) (a₁ : Nat → Act)
    (hassign : ∀ (m l x : Nat) (W : World) (K : Act → World → Prop), K (a₁ x) W → assign.wpIn (Fence.wide.inRound l) m Tryz.prog (Exit.then K (fun _ _ _ => False)) { tmps := (ps.zip #[.int .i64 (x : Int)]).foldl (fun t (p, v) => t.setIfInBounds p v) a.tmps, defers := [] } W)
    (hbody : ∀ (m l : Nat) (pre : List Nat) (x : Nat) (W : World), w.heap.size ≤ l → (∃ r, W.heap[l]? = some (.loop r)) → (pre ++ [x]) <+: zs → I pre W → body.wpIn (Fence.wide.inRound l) m Tryz.prog (zPost w.heap.size n₁ n₂ I (pre ++ [x]) W) (a₁ x) W)
    (hdone : ∀ (D : Nat) (W : World), w.heap.size ≤ D → I zs W → W.heap[D]? = some (.deferred (some [])) → Q .normal { a with defers := { target := .collected D, args := #[] } :: a.defers } W) :
    (Code.rangeFunc g ps assign body).wpIn Fence.wide n Tryz.prog Q a w := by
  refine wpIn_rangeFunc ?_
  intro fn hfn
  rw [show Fence.wide.round = none from rfl]
  obtain ⟨rec, hrec⟩ : ∃ rec : LoopState → Option Code → Loop, rec = fun st pe => { state := st, pending := pe, fn, tmps := a.tmps, params := ps, assign, body, defers := w.heap.size } := ⟨_, rfl⟩
  obtain ⟨W1, hW1⟩ : ∃ W1, (w.alloc (.deferred (some []))).alloc (.loop (rec .ready none)) = W1 := ⟨_, rfl⟩
  have hL1 : W1.heap[w.heap.size + 1]? = some (.loop (rec .ready none)) := by
    rw [← hW1]; have := World.alloc_heap_new (w.alloc (.deferred (some []))) (.loop (rec .ready none)); rwa [World.size_alloc] at this
  have hK1 : W1.heap[w.heap.size]? = some (.deferred (some [])) := by
    rw [← hW1]; exact (Below.heap_alloc _ _ _ (by simp)).trans (World.alloc_heap_new w _)
  have hI1 : I [] W1 := by rw [← hW1]; exact hIa _ _ _ (hIa _ _ _ h0 (Nat.le_refl _)) (by rw [World.size_alloc]; omega)
  have hb1 : Below w.heap.size w W1 := by rw [← hW1]; exact ((Below.refl _ w).alloc (Nat.le_refl _) _).alloc (by rw [World.size_alloc]; omega) _
  have put : ∀ (W : World) (l : Nat) (o' : Obj), w.heap.size ≤ l → Kq n₁ n₂ W (W.putObj l o') := fun W l o' hl => ⟨by simp [World.putObj], fun k _ h2 => World.putObj_heap_other (by omega)⟩
  refine ⟨w.heap.size + 1, [{ target := .collected w.heap.size, args := #[] }], W1, { target := .fn (.func 40) #[.pointer (some ⟨Bs, 0, none⟩)], args := #[.func (.yield (w.heap.size + 1)) #[] #[]] }, W1, 40,
    #[.func (.yield (w.heap.size + 1)) #[] #[]] ++ #[.pointer (some ⟨Bs, 0, none⟩)], W1, ?_, ?_, ?_, ?_, fun h => absurd h (by decide), ?_⟩
  · rw [← hW1, hrec]; exact run_enterLoop_outer _ _ _ _ _
  · simp only [resolve, hg]
    simp [go_sem]
  · intro f' hf'; trivial
  · simp [invoke, go_sem]
  · refine (vals_inZ (n - 1) (w.heap.size + 1) Bs n₁ n₂ zs hreach
      (fun pre W => I pre W ∧ W.heap[w.heap.size + 1]? = some (.loop (rec .ready none)) ∧ W.heap[w.heap.size]? = some (.deferred (some []))) (fun _ _ => False)
      ?_ W1 pp cp ((hb1.cell (p := ⟨Bs, 0, none⟩) hBs).trans h1) (fun j x hx => ?_) ⟨hI1, hL1, hK1⟩).mono ?_
    · rintro pre x W ⟨hi, hl, hk⟩ hpx
      have hlt : w.heap.size + 1 < W.heap.size := (Array.getElem?_eq_some_iff.1 hl).1
      have hy := run_yield (P := Tryz.prog) (args := #[.int .i64 (x : Int)]) hl (by rw [hrec]; exact hps.symm)
      rw [hrec] at hy
      refine ⟨fn, _, assign, body, hy, roundIn_of_wpIn hfn (hassign _ _ x W _ ?_)⟩
      clear hy
      refine ⟨_, run_beginRound hl (by rw [hrec]), ?_⟩
      have hl2 : (W.putObj (w.heap.size + 1) (.loop { rec .ready none with state := .busy })).heap[w.heap.size + 1]? = some (.loop { rec .ready none with state := .busy }) := World.putObj_heap_same hlt
      have hk2 : (W.putObj (w.heap.size + 1) (.loop { rec .ready none with state := .busy })).heap[w.heap.size]? = some (.deferred (some [])) := (World.putObj_heap_other (by omega)).trans hk
      have hw2 := put W (w.heap.size + 1) (.loop { rec .ready none with state := .busy }) (by omega)
      refine wpIn_mono (hbody _ _ pre x _ (by omega) ⟨_, hl2⟩ hpx (hIp _ _ _ _ _ hi (by omega) hl rfl)) ?_
      rintro e a3 W3 hp
      cases e with
      | normal =>
        obtain ⟨hk3, hkp3, hi3⟩ := hp
        have hl3 := hk3.same _ _ (by omega) hl2 rfl
        have hr := run_endRound (P := Tryz.prog) none hl3
        refine ⟨_, _, hr, .inl ⟨rfl, ⟨hIp _ _ _ _ _ hi3 (by omega) hl3 rfl, ?_, (World.putObj_heap_other (by omega)).trans (hk3.same _ _ (Nat.le_refl _) hk2 rfl)⟩, (hw2.trans hkp3).trans (put _ _ _ (by omega))⟩⟩
        have := World.putObj_heap_same (o := .loop (rec .ready none)) (Array.getElem?_eq_some_iff.1 hl3).1
        rw [hrec] at this ⊢
        exact this
      | ret => exact hp.elim
      | exit id => exact hp.elim
      | goto t => exact hp.elim
      | panic c => exact hp.elim
      | outgrown => exact hp.elim
    · obtain ⟨g', e, hg', hc⟩ := h2 j x hx
      exact ⟨g', e, hg', (hb1.cell (p := ⟨g', j, none⟩) (by show g' < w.heap.size; omega)).trans hc⟩
    · rintro e W2 ⟨⟨v, rfl⟩, ⟨ys, rfl, hi, hl, hk⟩ | ⟨pre, _, hf⟩⟩
      · exact ⟨none, _, by have := run_endLoop (P := Tryz.prog) hl (by rw [hrec]; simp); rw [hrec] at this; exact this, hdone _ _ (Nat.le_refl _) (hIp _ _ _ _ _ hi (by omega) hl rfl) ((World.putObj_heap_other (by omega)).trans hk)⟩
      · exact hf.elim
end Go.Proofs.YtchfphakhmifmabGreatDoor
namespace Go.Proofs.YtchfphakhmifmabGreatDoor
open Go.ChangeShapes Go.WideShapes Go.ChangeAt Go.RowKit Go.Shelf Go.Lib

def notDeferZ (o : Oper) : Bool := match o.op with
  | .defer _ => false
  | _ => true
theorem notDefer_neZ {o : Oper} (h : notDeferZ o = true) : ∀ c, o.op ≠ .defer c := fun c e => by
  unfold notDeferZ at h
  rw [e] at h
  cases h
theorem operIn_roundZ {n l₀ : Nat} {P : Program} {o : Oper} {a : Act} {w : World} {K : Act → World → Prop} {Q : Exit → Act → World → Prop} (hd : notDeferZ o = true) (h : o.wpIn Fence.wide n P a w K Q) : o.wpIn (Fence.wide.inRound l₀) n P a w K Q := by
  unfold Oper.wpIn at h ⊢
  rw [Oper.semAt_eq _ _ _ (notDefer_neZ hd)] at h ⊢
  exact h
theorem anyIn_roundZ {n l₀ : Nat} {P : Program} {md : Region.Mode} {ops : Array Oper} {Q : Exit → Act → World → Prop} (hd : ∀ (i : Nat) o, ops[i]? = some o → notDeferZ o = true) : ∀ (fuel : Nat) (listed : Array Bool) (a : Act) (w : World),
    wpAnyIn Fence.wide n P md ops Q fuel listed a w → wpAnyIn (Fence.wide.inRound l₀) n P md ops Q fuel listed a w
  | 0, _, _, _, h => h
  | fuel + 1, listed, a, w, h => by
    refine ⟨h.1, fun i hi => ?_⟩
    have h1 := wpOpIn_mono (fun a' w' h' => anyIn_roundZ (l₀ := l₀) hd fuel _ a' w' h') (h.2 i hi)
    unfold wpOpIn at h1 ⊢
    split
    · rename_i ho
      simp only [ho] at h1
      exact h1
    · rename_i o ho
      simp only [ho] at h1
      split
      · rename_i hw
        simp only [hw, if_true] at h1
        exact operIn_roundZ (hd i o ho) h1
      · rename_i hw
        simp only [hw] at h1
        exact h1
theorem wpIn_region_quiet_roundZ {n l₀ : Nat} {P : Program} {id : Nat} {Q : Exit → Act → World → Prop} {a : Act} {w : World} {l : List Oper} (hd : l.all notDeferZ = true) (hm : P.follows .mixedOrders = true) (hB : Region.lexB .any l.toArray = true)
    (h : wpQuietIn Fence.wide n P l.toArray (fun w' => ∃ n, w' = w.drewN n) (fun a' => ∀ w', (∃ n, w' = w.drewN n) → Q .normal a' w') l a) : (Code.region id l.toArray true).wpIn (Fence.wide.inRound l₀) n P Q a w := by
  simp only [Region.lexB, Bool.and_eq_true] at hB
  have hC : (fun w' => ∃ n, w' = w.drewN n) { w with drawn := w.drawn + 1 } := ⟨1, rfl⟩
  refine wpIn_region_any hm (anyIn_roundZ (fun i o ho => List.all_eq_true.1 hd o (List.mem_of_getElem? (by simpa using ho))) _ _ _ _ ?_)
  refine wpAnyIn_of_quiet (C := fun w' => ∃ n, w' = w.drewN n) (Q := fun a' => ∀ w', (∃ n, w' = w.drewN n) → Q .normal a' w') rfl (fun _ w' hw' h => h w' hw') _ _ _ _ hC ?_
  have := wpAnyQIn_lex (F := Fence.wide) (n := n) (C := fun w' => ∃ n, w' = w.drewN n) (md := .any) hB.1 l 0 (Array.replicate l.toArray.size false) a (by simp) (by simpa using hB.2) h
  simpa using this
end Go.Proofs.YtchfphakhmifmabGreatDoor

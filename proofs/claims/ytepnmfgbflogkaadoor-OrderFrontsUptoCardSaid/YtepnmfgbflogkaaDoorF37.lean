/- FrN, FrM, FrA. -/
import Derived.Test.YtepnmfgbflogkaaDoorF36
import Derived.Test.YtepnmfgbflogkaaDoorF03
import Derived.Test.YtepnmfgbflogkaaDoorF34
namespace Go.Proofs.YtepnmfgbflogkaaDoor
open Go.ChangeShapes Go.WideShapes Go.ChangeAt Go.RowKit Go.Shelf Go.Maps

/-- Numbers as they are handed in. -/
structure PRow (w : World) (pp : Option Addr) (H : Nat) (l : List Int) : Prop where
  c : ∀ (i : Nat) (x : Int), l[i]? = some x → ∃ g o, pp = some ⟨g, o, none⟩ ∧ g < H ∧ w.cell? ⟨g, o + i, none⟩ = some (.int .i64 x)
  ok : ∀ x ∈ l, i64ok x
  len : l.length ≤ 100000000000000
theorem PRow.below {w w' : World} {pp : Option Addr} {H : Nat} {l : List Int} (h : PRow w pp H l) (hb : Below H w w') : PRow w' pp H l :=
  ⟨fun i x hx => by
    obtain ⟨g, o, e, hg, h0⟩ := h.c i x hx
    exact ⟨g, o, e, hg, (hb.cell (p := ⟨g, _, none⟩) hg).trans h0⟩, h.ok, h.len⟩
theorem tmodB (v n : Int) (hn : 0 < n) : -n < v.tmod n ∧ v.tmod n < n := by
  have h1 := Int.emod_nonneg v (show n ≠ 0 by omega)
  have h2 := Int.emod_lt_of_pos v hn
  rw [Int.tmod_eq_emod]
  have h3 : (n.natAbs : Int) = n := by omega
  by_cases h : 0 ≤ v ∨ n ∣ v
  · rw [if_pos h]; omega
  · rw [if_neg h, h3]
    have : v % n ≠ 0 := fun e => h (.inr (Int.dvd_of_emod_eq_zero e))
    omega
theorem kbdrN {E : List Nat} {n : Nat} {a w : World} (h : Kb E a w) : Kb E a (w.drewN n) := ⟨h.os, h.tape, h.output, h.size, h.block⟩
abbrev chO (pL : Option Addr) (n cL : Nat) (at_ : Int) : Obj := .cells #[.slice pL n cL, .int .i64 at_] 56
set_option maxRecDepth 20000 in
set_option maxHeartbeats 4000000 in
theorem chNext_any (cb : Nat) (at_ : Nat) (n : Nat) (L : List Int) (pL : Option Addr) (cL : Nat) (w : World) (hc : w.heap[cb]? = some (chO pL L.length cL (at_ : Int))) (hL : PRow w pL cb L) (hat : at_ ≤ 1000000000000000) (h0 : 0 < n) (hn : n ≤ 1000000000000) :
    Calls Tryd.prog 23 #[.pointer (some ⟨cb, 0, none⟩), .int .i64 (n : Int)] w fun r w' => ∃ k : Nat, k < n ∧ r = .returned (.int .i64 (k : Int)) ∧ w'.heap[cb]? = some (chO pL L.length cL ((at_ + 1 : Nat) : Int)) ∧ Kb [cb] w w' := by
  have a0 : w.cell? ⟨cb, 0, none⟩ = some (.slice pL L.length cL) := cell_at hc 0
  have a1 : w.cell? ⟨cb, 1, none⟩ = some (.int .i64 (at_ : Int)) := cell_at hc 1
  have z1 : w.frozen? ⟨cb, 1, none⟩ = false := by simp only [World.frozen?, hc]; simp
  have hc2 := cellSet hc 1 (.int .i64 ((at_ : Int) + 1))
  have c0 : (w.setCell ⟨cb, 1, none⟩ (.int .i64 ((at_ : Int) + 1))).cell? ⟨cb, 0, none⟩ = some (.slice pL L.length cL) := cell_at hc2 0
  have c1 : (w.setCell ⟨cb, 1, none⟩ (.int .i64 ((at_ : Int) + 1))).cell? ⟨cb, 1, none⟩ = some (.int .i64 ((at_ : Int) + 1)) := cell_at hc2 1
  have HH : Hid ((w.setCell ⟨cb, 1, none⟩ (.int .i64 ((at_ : Int) + 1))).heap[cb]? = some (chO pL L.length cL ((at_ + 1 : Nat) : Int))) := ⟨hc2⟩
  have HK : Hid (Kb [cb] w (w.setCell ⟨cb, 1, none⟩ (.int .i64 ((at_ : Int) + 1)))) := ⟨⟨rfl, rfl, rfl, by simp [World.setCell], fun k _ hk => heap_setCell_other w ⟨cb, 1, none⟩ k _ (by simpa using hk)⟩⟩
  have hn0 : (n : Int) ≠ 0 := by omega
  clear hc hc2
  by_cases hl : L = []
  · subst hl
    go_enter Tryd.func23, Tryd.ntmps23
    go_wp2_with fail
    go_ret
    refine ⟨(at_ + 1) % n, Nat.mod_lt _ h0, ?_, HH.out, HK.out⟩
    congr 2
  · have hl0 : 0 < L.length := List.length_pos_iff.2 hl
    have e1 : ((L.length : Int) == 0) = false := by simp [hl]
    have e2 : (L.length : Int) ≠ 0 := by omega
    obtain ⟨ix, hix, hixl⟩ : ∃ ix : Nat, ((at_ : Int) + 1) % (L.length : Int) = (ix : Int) ∧ ix < L.length := ⟨(at_ + 1) % L.length, (by push_cast; rfl), Nat.mod_lt _ hl0⟩
    obtain ⟨x, hx⟩ : ∃ x, L[ix]? = some x := ⟨L[ix], List.getElem?_eq_getElem hixl⟩
    obtain ⟨g, o, rfl, hg, hcx⟩ := hL.c ix x hx
    have hcx' : (w.setCell ⟨cb, 1, none⟩ (.int .i64 ((at_ : Int) + 1))).cell? ⟨g, o + ix, none⟩ = some (.int .i64 x) := by
      rw [World.cell?_setCell_other _ _ _ _ (fun e => by injection e with e; omega)]
      exact hcx
    have hb := tmodB x n (by omega)
    have hxl : (ix : Int) < L.length := by omega
    have hlen := hL.len
    have hw1 : IntKind.i64.wrap (x.tmod n) = x.tmod n := by rw [IntKind.wrap_i64]; omega
    have hxi : Hid _ := ⟨hixl⟩
    clear hl hL hx hcx hg hixl hl0
    by_cases hneg : x.tmod n < 0
    · have hw2 : IntKind.i64.wrap (x.tmod n + n) = x.tmod n + n := by rw [IntKind.wrap_i64]; omega
      go_enter Tryd.func23, Tryd.ntmps23
      go_upto_region 4 with fail
      go_quiet (fail)
      go_wp2_with fail
      go_ret
      refine ⟨(x.tmod n + n).toNat, by omega, ?_, HH.out, kbdrN HK.out⟩
      have e9 : ((x.tmod n + n).toNat : Int) = x.tmod n + n := Int.toNat_of_nonneg (by omega)
      rw [e9]
      rfl
    · go_enter Tryd.func23, Tryd.ntmps23
      go_upto_region 4 with fail
      go_quiet (fail)
      go_wp2_with fail
      go_ret
      refine ⟨(x.tmod n).toNat, by omega, ?_, HH.out, kbdrN HK.out⟩
      have e9 : ((x.tmod n).toNat : Int) = x.tmod n := Int.toNat_of_nonneg (by omega)
      rw [e9]
      rfl
end Go.Proofs.YtepnmfgbflogkaaDoor
namespace Go.Proofs.YtepnmfgbflogkaaDoor

def stO (l : List Tk) (s : Ms) (c : Oc) : Int × Ms := stepZ l s c.k c.cnt c.nm
def okS (l : List Tk) : Ms → List Oc → Prop
  | _, [] => True
  | s, c :: r => (stO l s c).1 = 0 ∧ okS l (stO l s c).2 r
def endS (l : List Tk) : Ms → List Oc → Ms
  | s, [] => s
  | s, c :: r => endS l (stO l s c).2 r
theorem okS_append {l : List Tk} : ∀ {a b : List Oc} {s : Ms}, okS l s a → okS l (endS l s a) b → okS l s (a ++ b)
  | [], _, _, _, h => h
  | _ :: _, _, _, h1, h2 => ⟨h1.1, okS_append h1.2 h2⟩
theorem endS_append {l : List Tk} : ∀ {a b : List Oc} {s : Ms}, endS l s (a ++ b) = endS l (endS l s a) b
  | [], _, _ => rfl
  | _ :: a, _, _ => endS_append (a := a)
theorem okS_at {l : List Tk} : ∀ {cs : List Oc} {s : Ms} {j : Nat} {c : Oc}, okS l s cs → cs[j]? = some c → (stO l (endS l s (cs.take j)) c).1 = 0 ∧ endS l s (cs.take (j + 1)) = (stO l (endS l s (cs.take j)) c).2
  | [], _, _, _, _, h => by cases h
  | a :: r, s, 0, c, h, e => by
    cases e
    exact ⟨h.1, by simp [endS]⟩
  | a :: r, s, j + 1, c, h, e => by
    have := okS_at (cs := r) h.2 e
    simpa [endS] using this
/-- The calls of a row. -/
def RowR (l : List Tk) (R : Nat → List Oc → Prop) : List Nat → List Oc → Prop
  | [], cs => cs = []
  | q :: r, cs => ∃ a b, cs = a ++ b ∧ RowR l R r b ∧ ((opAt l q = 6 ∧ a = [⟨3, nmAt l q, 0⟩]) ∨ (opAt l q = 4 ∧ ∃ es : List (List Oc), es.length ≤ 3 ∧ a = ⟨1, nmAt l q, (es.length : Int)⟩ :: es.flatMap (fun e => ⟨2, ⟨#[]⟩, 0⟩ :: e) ∧ ∀ e ∈ es, R q e))
/-- The calls of a block, by the chapter's recursion. -/
def RunD (l : List Tk) : Nat → Nat → List Oc → Prop
  | 0, _, _ => False
  | d + 1, p, cs => ∃ fs rs, cs = fs ++ rs ∧ (∀ c ∈ fs, c.k = 0 ∧ c.cnt = 0 ∧ ∃ i ∈ fldZ l p, nmAt l i = c.nm) ∧ RowR l (RunD l d) (rowZ l p) rs
/-- How many entries are called. -/
def tot : List Oc → Int
  | [] => 0
  | c :: r => (if c.k = 1 then c.cnt else 0) + tot r
theorem tot_append (a b : List Oc) : tot (a ++ b) = tot a + tot b := by
  induction a with
  | nil => simp [tot]
  | cons c a ih => rw [List.cons_append, tot, tot, ih]; omega
theorem tot_zero {a : List Oc} (h : ∀ c ∈ a, c.k ≠ 1) : tot a = 0 := by
  induction a with
  | nil => rfl
  | cons c a ih => rw [tot, if_neg (h c (List.mem_cons_self ..)), ih fun x hx => h x (List.mem_cons_of_mem _ hx)]; rfl
theorem leave_ov {l : List Tk} {x : Lv} {rest : List Lv} (hx : overB l x = false ∨ rest = []) : ∀ {ov : List Lv}, (∀ y ∈ ov, overB l y = true) → leaveR l (ov ++ x :: rest) = x :: rest
  | [], _ => by
    cases rest with
    | nil => rfl
    | cons y r =>
      rcases hx with hx | hx
      · show leaveR l (x :: y :: r) = _
        rw [leaveR, if_neg (by rw [hx]; decide)]
      · cases hx
  | a :: ov, h => by
    have ih := leave_ov hx (ov := ov) fun y hy => h y (List.mem_cons_of_mem _ hy)
    cases hov : ov ++ x :: rest with
    | nil => simp at hov
    | cons y r =>
      show leaveR l (a :: (ov ++ x :: rest)) = _
      rw [hov, leaveR, if_pos (h a (List.mem_cons_self ..)), ← hov]
      exact ih
theorem over_no {l : List Tk} {p : Nat} {left : Int} {b : Bool} {come : Nat} (h : come < (rowZ l p).length ∨ left ≠ 0 ∨ b = false) : overB l ⟨p, left, b, come⟩ = false := by
  unfold overB wholeB
  rcases h with h | h | h
  · simp; intro _ e; omega
  · simp; intro _ _; exact h
  · simp [h]
theorem over_yes {l : List Tk} {p : Nat} : overB l ⟨p, 0, true, (rowZ l p).length⟩ = true := by
  unfold overB wholeB
  simp
theorem mem_some {l : List Tk} {p q come : Nat} {left : Int} (h : (rowZ l p)[come]? = some q) : memZ l ⟨p, left, true, come⟩ (knd (opAt l q)) (nmAt l q) = some q := by
  unfold memZ
  rw [if_pos rfl]
  dsimp only
  rw [h]
  simp
theorem step_data {l : List Tk} {p q come : Nat} {left ent : Int} {rest ov : List Lv} (h : (rowZ l p)[come]? = some q) (ho : opAt l q = 6) (hov : ∀ y ∈ ov, overB l y = true) :
    stO l ⟨ov ++ ⟨p, left, true, come⟩ :: rest, ent⟩ ⟨3, nmAt l q, 0⟩ = (0, ⟨⟨p, left, true, come + 1⟩ :: rest, ent⟩) := by
  have hlt := (List.getElem?_eq_some_iff.1 h).1
  have hm := mem_some (left := left) h
  rw [ho, show knd 6 = 3 from rfl] at hm
  unfold stO stepZ
  dsimp only
  rw [if_neg (by decide), if_neg (by decide), leave_ov (.inl (over_no (.inl hlt))) hov]
  simp [hm]
theorem step_group {l : List Tk} {p q come n : Nat} {left ent : Int} {rest ov : List Lv} (h : (rowZ l p)[come]? = some q) (ho : opAt l q = 4) (hov : ∀ y ∈ ov, overB l y = true) (hn : n ≤ 3) (he : ent + n ≤ 65536) :
    stO l ⟨ov ++ ⟨p, left, true, come⟩ :: rest, ent⟩ ⟨1, nmAt l q, (n : Int)⟩ = (0, ⟨(if 0 < n then [⟨q, (n : Int), false, 0⟩] else []) ++ ⟨p, left, true, come + 1⟩ :: rest, ent + n⟩) := by
  have hlt := (List.getElem?_eq_some_iff.1 h).1
  have hm := mem_some (left := left) h
  rw [ho, show knd 4 = 1 from rfl] at hm
  have hg : ¬ ((n : Int) < 0 ∨ gmax (bpAt l q) < (n : Int)) := by
    unfold gmax
    split
    · omega
    · split <;> omega
  have h2 : ¬ (65536 - ent < (n : Int)) := by omega
  unfold stO stepZ
  dsimp only
  rw [if_neg (by decide), if_neg (by decide), leave_ov (.inl (over_no (.inl hlt))) hov]
  dsimp only
  rw [if_neg (by decide), if_neg (by decide), hm]
  dsimp only
  rw [if_neg (by decide), if_neg hg, if_neg h2]
  by_cases h0 : 0 < n
  · simp [h0]
  · simp [h0]
theorem step_next {l : List Tk} {q k c0 : Nat} {b : Bool} {ent : Int} {rest ov : List Lv} (hov : ∀ y ∈ ov, overB l y = true) (hb : b = false ∨ c0 = (rowZ l q).length) :
    stO l ⟨ov ++ ⟨q, ((k + 1 : Nat) : Int), b, c0⟩ :: rest, ent⟩ ⟨2, ⟨#[]⟩, 0⟩ = (0, ⟨⟨q, (k : Int), true, 0⟩ :: rest, ent⟩) := by
  have hne : ((k + 1 : Nat) : Int) ≠ 0 := by omega
  unfold stO stepZ
  dsimp only
  rw [if_neg (by decide), if_neg (by decide), leave_ov (.inl (over_no (.inr (.inl hne)))) hov]
  dsimp only
  rw [if_neg (by decide), if_pos (by decide), if_neg]
  · simp
  · rintro (h | ⟨h1, h2⟩)
    · exact hne h
    · rcases hb with hb | hb
      · rw [hb] at h1; cases h1
      · subst hb h1
        unfold wholeB at h2
        simp at h2
/-- What a list of calls does to a machine that stands in block p. -/
def Taken (l : List Tk) (p : Nat) (cs : List Oc) : Prop := ∀ (left : Int) (rest : List Lv) (ent : Int), 0 ≤ ent → ent + tot cs ≤ 65536 → ∃ ov, (∀ x ∈ ov, overB l x = true) ∧ okS l ⟨⟨p, left, true, 0⟩ :: rest, ent⟩ cs ∧ endS l ⟨⟨p, left, true, 0⟩ :: rest, ent⟩ cs = ⟨ov ++ ⟨p, left, true, (rowZ l p).length⟩ :: rest, ent + tot cs⟩
def tNN (cs : List Oc) : Prop := 0 ≤ tot cs
theorem ents_ok {l : List Tk} {q : Nat} : ∀ (es : List (List Oc)) (b : Bool) (c0 : Nat) (ov rest : List Lv) (ent : Int), (∀ e ∈ es, Taken l q e ∧ 0 ≤ tot e) → (∀ y ∈ ov, overB l y = true) → (b = true → c0 = (rowZ l q).length) → (es = [] → b = true) → 0 ≤ ent → ent + tot (es.flatMap fun e => ⟨2, ⟨#[]⟩, 0⟩ :: e) ≤ 65536 →
    ∃ ov', (∀ y ∈ ov', overB l y = true) ∧ okS l ⟨ov ++ ⟨q, (es.length : Int), b, c0⟩ :: rest, ent⟩ (es.flatMap fun e => ⟨2, ⟨#[]⟩, 0⟩ :: e) ∧ endS l ⟨ov ++ ⟨q, (es.length : Int), b, c0⟩ :: rest, ent⟩ (es.flatMap fun e => ⟨2, ⟨#[]⟩, 0⟩ :: e) = ⟨ov' ++ rest, ent + tot (es.flatMap fun e => ⟨2, ⟨#[]⟩, 0⟩ :: e)⟩
  | [], b, c0, ov, rest, ent, _, hov, hb, hz, _, _ => by
    obtain rfl := hz rfl
    obtain rfl := hb rfl
    refine ⟨ov ++ [⟨q, 0, true, (rowZ l q).length⟩], fun y hy => ?_, trivial, by simp [endS, tot]⟩
    rcases List.mem_append.1 hy with hy | hy
    · exact hov y hy
    · rw [List.mem_singleton.1 hy]
      exact over_yes
  | e :: es, b, c0, ov, rest, ent, hE, hov, hb, _, he, ht => by
    have hbb : b = false ∨ c0 = (rowZ l q).length := by
      cases b with
      | false => exact .inl rfl
      | true => exact .inr (hb rfl)
    have hs := step_next (k := es.length) (ent := ent) (rest := rest) hov hbb
    have htt : ∀ es' : List (List Oc), (∀ e ∈ es', Taken l q e ∧ 0 ≤ tot e) → 0 ≤ tot (es'.flatMap fun e => ⟨2, ⟨#[]⟩, 0⟩ :: e) := by
      intro es' h
      induction es' with
      | nil => decide
      | cons a r ih =>
        rw [List.flatMap_cons, tot_append, tot]
        have := (h a (List.mem_cons_self ..)).2
        have := ih fun e he => h e (List.mem_cons_of_mem _ he)
        simp
        omega
    have h1 := htt es fun x hx => hE x (List.mem_cons_of_mem _ hx)
    rw [List.flatMap_cons, tot_append, tot] at ht
    simp only [show ¬ ((2 : Int) = 1) by decide, if_false, Int.zero_add] at ht
    obtain ⟨ov1, o1, o2, o3⟩ := (hE e (List.mem_cons_self ..)).1 (es.length : Int) rest ent he (by omega)
    have h0 := (hE e (List.mem_cons_self ..)).2
    obtain ⟨ov2, q1, q2, q3⟩ := ents_ok es true (rowZ l q).length ov1 rest (ent + tot e) (fun x hx => hE x (List.mem_cons_of_mem _ hx)) o1 (fun _ => rfl) (fun _ => rfl) (by omega) (by omega)
    refine ⟨ov2, q1, ?_, ?_⟩
    · rw [List.flatMap_cons, List.length_cons]
      refine ⟨by rw [hs], ?_⟩
      rw [hs]
      refine okS_append o2 ?_
      rw [o3]
      exact q2
    · rw [List.flatMap_cons, List.length_cons]
      show endS l (stO l _ _).2 (e ++ _) = _
      rw [hs, endS_append, o3, q3, tot_append, tot]
      simp only [show ¬ ((2 : Int) = 1) by decide, if_false, Int.zero_add]
      rw [Int.add_assoc]
theorem row_ok {l : List Tk} {p : Nat} {R : Nat → List Oc → Prop} (hR : ∀ q e, R q e → Taken l q e ∧ 0 ≤ tot e) (left : Int) (rest : List Lv) : ∀ (todo don : List Nat) (rs : List Oc) (ov : List Lv) (ent : Int), don ++ todo = rowZ l p → RowR l R todo rs → (∀ y ∈ ov, overB l y = true) → 0 ≤ ent → ent + tot rs ≤ 65536 →
    0 ≤ tot rs ∧ ∃ ov', (∀ y ∈ ov', overB l y = true) ∧ okS l ⟨ov ++ ⟨p, left, true, don.length⟩ :: rest, ent⟩ rs ∧ endS l ⟨ov ++ ⟨p, left, true, don.length⟩ :: rest, ent⟩ rs = ⟨ov' ++ ⟨p, left, true, (rowZ l p).length⟩ :: rest, ent + tot rs⟩
  | [], don, rs, ov, ent, hd, hr, hov, _, _ => by
    obtain rfl : rs = [] := hr
    rw [List.append_nil] at hd
    rw [← hd]
    exact ⟨by decide, ov, hov, trivial, by simp [endS, tot]⟩
  | q :: todo, don, rs, ov, ent, hd, hr, hov, he, ht => by
    obtain ⟨a, b, rfl, hb, hcase⟩ := hr
    have hq : (rowZ l p)[don.length]? = some q := by rw [← hd]; simp
    have hd' : (don ++ [q]) ++ todo = rowZ l p := by rw [← hd]; simp
    have hl' : (don ++ [q]).length = don.length + 1 := by simp
    rw [tot_append] at ht
    have nn : ∀ es : List (List Oc), (∀ e ∈ es, R q e) → 0 ≤ tot (es.flatMap fun e => (⟨2, ⟨#[]⟩, 0⟩ : Oc) :: e) := by
      intro es h
      induction es with
      | nil => decide
      | cons x r ih =>
        rw [List.flatMap_cons, tot_append, tot]
        have := (hR q x (h x (List.mem_cons_self ..))).2
        have := ih fun e he => h e (List.mem_cons_of_mem _ he)
        simp
        omega
    rcases hcase with ⟨ho, rfl⟩ | ⟨ho, es, hes, rfl, hE⟩
    · have hs := step_data (left := left) (ent := ent) (rest := rest) hq ho hov
      rw [show tot [(⟨3, nmAt l q, 0⟩ : Oc)] = 0 from rfl] at ht
      obtain ⟨t0, ov', r1, r2, r3⟩ := row_ok hR left rest todo (don ++ [q]) b [] ent hd' hb (fun y hy => by cases hy) he (by omega)
      rw [hl', List.nil_append] at r2 r3
      refine ⟨by rw [tot_append, show tot [(⟨3, nmAt l q, 0⟩ : Oc)] = 0 from rfl]; omega, ov', r1, ⟨by rw [hs], by rw [hs]; exact r2⟩, ?_⟩
      show endS l (stO l _ _).2 b = _
      rw [hs, r3, tot_append, show tot [(⟨3, nmAt l q, 0⟩ : Oc)] = 0 from rfl, Int.zero_add]
    · have ta : tot (⟨1, nmAt l q, (es.length : Int)⟩ :: es.flatMap fun e => (⟨2, ⟨#[]⟩, 0⟩ : Oc) :: e) = (es.length : Int) + tot (es.flatMap fun e => (⟨2, ⟨#[]⟩, 0⟩ : Oc) :: e) := by rw [tot]; simp
      have hn := nn es hE
      rw [ta] at ht
      have hbn : 0 ≤ tot b ∨ ¬ 0 ≤ tot b := by omega
      have key : ∀ (ovx : List Lv) (entx : Int), (∀ y ∈ ovx, overB l y = true) → 0 ≤ entx → entx + tot b ≤ 65536 → 0 ≤ tot b ∧ ∃ ov', (∀ y ∈ ov', overB l y = true) ∧ okS l ⟨ovx ++ ⟨p, left, true, don.length + 1⟩ :: rest, entx⟩ b ∧ endS l ⟨ovx ++ ⟨p, left, true, don.length + 1⟩ :: rest, entx⟩ b = ⟨ov' ++ ⟨p, left, true, (rowZ l p).length⟩ :: rest, entx + tot b⟩ := fun ovx entx h1 h2 h3 => by
        have := row_ok hR left rest todo (don ++ [q]) b ovx entx hd' hb h1 h2 h3
        rwa [hl'] at this
      have tb0 : 0 ≤ tot b := by
        rcases hbn with h | h
        · exact h
        · exact (key [] 0 (fun y hy => by cases hy) (by omega) (by omega)).1
      have hs := step_group (left := left) (ent := ent) (rest := rest) hq ho hov hes (by omega)
      have hmid : ∃ ov1, (∀ y ∈ ov1, overB l y = true) ∧ okS l ⟨(if 0 < es.length then [(⟨q, (es.length : Int), false, 0⟩ : Lv)] else []) ++ ⟨p, left, true, don.length + 1⟩ :: rest, ent + es.length⟩ (es.flatMap fun e => (⟨2, ⟨#[]⟩, 0⟩ : Oc) :: e) ∧ endS l ⟨(if 0 < es.length then [(⟨q, (es.length : Int), false, 0⟩ : Lv)] else []) ++ ⟨p, left, true, don.length + 1⟩ :: rest, ent + es.length⟩ (es.flatMap fun e => (⟨2, ⟨#[]⟩, 0⟩ : Oc) :: e) = ⟨ov1 ++ ⟨p, left, true, don.length + 1⟩ :: rest, ent + es.length + tot (es.flatMap fun e => (⟨2, ⟨#[]⟩, 0⟩ : Oc) :: e)⟩ := by
        by_cases h0 : 0 < es.length
        · rw [if_pos h0]
          exact ents_ok es false 0 [] (⟨p, left, true, don.length + 1⟩ :: rest) (ent + es.length) (fun e he => hR q e (hE e he)) (fun y hy => by cases hy) (fun h => by cases h) (fun h => by rw [h] at h0; simp at h0) (by omega) (by omega)
        · rw [if_neg h0]
          obtain rfl : es = [] := List.eq_nil_of_length_eq_zero (by omega)
          exact ⟨[], fun y hy => (by cases hy), trivial, by simp [endS, tot]⟩
      obtain ⟨ov1, m1, m2, m3⟩ := hmid
      obtain ⟨-, ov', r1, r2, r3⟩ := key ov1 (ent + es.length + tot (es.flatMap fun e => (⟨2, ⟨#[]⟩, 0⟩ : Oc) :: e)) m1 (by omega) (by omega)
      refine ⟨by rw [tot_append, ta]; omega, ov', r1, ⟨by rw [hs], ?_⟩, ?_⟩
      · rw [hs]
        refine okS_append m2 ?_
        rw [m3]
        exact r2
      · show endS l (stO l _ _).2 (_ ++ b) = _
        rw [hs, endS_append, m3, r3, tot_append, ta]
        congr 1
        omega
theorem flds_ok {l : List Tk} {p : Nat} {left ent : Int} {rest : List Lv} : ∀ {fs : List Oc}, (∀ c ∈ fs, c.k = 0 ∧ c.cnt = 0 ∧ ∃ i ∈ fldZ l p, nmAt l i = c.nm) → okS l ⟨⟨p, left, true, 0⟩ :: rest, ent⟩ fs ∧ endS l ⟨⟨p, left, true, 0⟩ :: rest, ent⟩ fs = ⟨⟨p, left, true, 0⟩ :: rest, ent⟩
  | [], _ => ⟨trivial, rfl⟩
  | c :: fs, h => by
    obtain ⟨hk, -, i, hi, hn⟩ := h c (List.mem_cons_self ..)
    have hf : fieldB l ⟨p, left, true, 0⟩ c.nm = true := by
      unfold fieldB
      simp only [Bool.true_and, decide_true, List.any_eq_true, decide_eq_true_eq]
      exact ⟨i, hi, hn⟩
    have hs : stO l ⟨⟨p, left, true, 0⟩ :: rest, ent⟩ c = (0, ⟨⟨p, left, true, 0⟩ :: rest, ent⟩) := by
      unfold stO stepZ
      rw [hk]
      simp [hf]
    have ih := flds_ok (left := left) (ent := ent) (rest := rest) (fs := fs) fun x hx => h x (List.mem_cons_of_mem _ hx)
    refine ⟨⟨by rw [hs], by rw [hs]; exact ih.1⟩, ?_⟩
    show endS l (stO l _ c).2 fs = _
    rw [hs]
    exact ih.2
theorem run_taken {l : List Tk} : ∀ (d p : Nat) (cs : List Oc), RunD l d p cs → Taken l p cs ∧ 0 ≤ tot cs
  | 0, _, _, h => h.elim
  | d + 1, p, cs, ⟨fs, rs, e, hf, hr⟩ => by
    subst e
    have tf : tot fs = 0 := tot_zero fun c hc h => by rw [(hf c hc).1] at h; cases h
    have t0 : 0 ≤ tot rs ∨ ¬ 0 ≤ tot rs := by omega
    have t1 : 0 ≤ tot rs := by
      rcases t0 with h | h
      · exact h
      · exact (row_ok (fun q e he => run_taken d q e he) 0 [] (rowZ l p) [] rs [] 0 rfl hr (fun y hy => by cases hy) (by omega) (by omega)).1
    refine ⟨fun left rest ent he ht => ?_, by rw [tot_append, tf]; omega⟩
    rw [tot_append, tf, Int.zero_add] at ht ⊢
    obtain ⟨f1, f2⟩ := flds_ok (left := left) (ent := ent) (rest := rest) hf
    obtain ⟨-, ov, r1, r2, r3⟩ := row_ok (fun q e he => run_taken d q e he) left rest (rowZ l p) [] rs [] ent rfl hr (fun y hy => by cases hy) he ht
    refine ⟨ov, r1, okS_append f1 (by rw [f2]; exact r2), ?_⟩
    rw [endS_append, f2]
    exact r3
/-- A whole message is taken, and then it is done. -/
theorem run_whole {l : List Tk} {d : Nat} {cs : List Oc} (h : RunD l d 0 cs) (ht : tot cs ≤ 65536) : okS l newZ cs ∧ ∃ ov, (∀ x ∈ ov, overB l x = true) ∧ endS l newZ cs = ⟨ov ++ [⟨0, 0, true, (rowZ l 0).length⟩], tot cs⟩ := by
  obtain ⟨ov, h1, h2, h3⟩ := (run_taken d 0 cs h).1 0 [] 0 (by omega) (by omega)
  exact ⟨h2, ov, h1, by rw [Int.zero_add] at h3; exact h3⟩
theorem end_done {l : List Tk} {ov : List Lv} {ent : Int} (h : ∀ x ∈ ov, overB l x = true) : doneB l ⟨ov ++ [⟨0, 0, true, (rowZ l 0).length⟩], ent⟩ = true := by
  unfold doneB
  rw [List.all_eq_true]
  intro x hx
  rcases List.mem_append.1 hx with hx | hx
  · exact h x hx
  · rw [List.mem_singleton.1 hx]
    exact over_yes
theorem end_no {l : List Tk} {ov : List Lv} {ent : Int} (h : ∀ x ∈ ov, overB l x = true) (k cnt : Int) (nm : ByteArray) (hk : k = 1 ∨ k = 2 ∨ k = 3) : (stepZ l ⟨ov ++ [⟨0, 0, true, (rowZ l 0).length⟩], ent⟩ k cnt nm).1 = 140 := by
  have hl : leaveR l (ov ++ [⟨0, 0, true, (rowZ l 0).length⟩]) = [⟨0, 0, true, (rowZ l 0).length⟩] := leave_ov (.inr rfl) h
  have hm : ∀ k, memZ l ⟨0, 0, true, (rowZ l 0).length⟩ k nm = none := fun k => by
    unfold memZ
    rw [if_pos rfl]
    simp
  unfold stepZ
  rcases hk with rfl | rfl | rfl
  · simp [hl, hm]
  · simp [hl]
  · simp [hl, hm]
theorem bad_count {l : List Tk} {s : Ms} {n : Int} {nm : ByteArray} (h : (stepZ l s 1 n nm).1 = 0) : (stepZ l s 1 (-1) nm).1 = 141 := by
  unfold stepZ at h ⊢
  rw [if_neg (by decide), if_neg (by decide)] at h ⊢
  cases hl : leaveR l s.op with
  | nil => rw [hl] at h; simp at h
  | cons x r =>
    rw [hl] at h
    simp only [show ¬ ((1 : Int) = 0) by decide, show ¬ ((1 : Int) = 2) by decide, show ¬ ((1 : Int) = 3) by decide, if_false] at h ⊢
    cases hm : memZ l x 1 nm with
    | none => rw [hm] at h; simp at h
    | some q => simp
theorem four_no {l : List Tk} {s : Ms} {n : Int} {nm : ByteArray} : (stepZ l s 4 n nm).1 = 140 := by
  unfold stepZ
  rw [if_pos (.inr (by decide))]
end Go.Proofs.YtepnmfgbflogkaaDoor
namespace Go.Proofs.YtepnmfgbflogkaaDoor
open Go.ChangeShapes Go.WideShapes Go.ChangeAt Go.RowKit Go.Shelf Go.Maps

/-- One more behind a row of one's own. -/
theorem ap_gen {W : World} {base : Nat} {t e : TypeId} {z : Value} {size bytes n : Nat} {v : Value} {xs : List Value} (ht : Tryd.prog.underlying t = some (.slice e)) (hi : (Tryd.prog.info? e).map (fun i => (i.zero, i.size, i.bytes)) = some (some z, size, bytes)) (hz : z.cells.size = size) (hsz : 0 < size)
    (own : W.ownsRow base e size v n xs) (cs : List Value) (hcs : cs.length = size) (h1 : ∀ u ∈ cs, u.oneCell' = true) (hn : n + 1 ≤ 100000000000) (hb : bytes ≤ 100) (hbase : base ≤ W.heap.size) :
    ∃ v' w', (∀ ty, (Builtin.append_ #[t, t] ty #[v, .slice (some ⟨W.heap.size, 0, none⟩) 1 1]).run Tryd.prog (W.alloc (.cells cs.toArray e)) = .ok v' w') ∧ (w'.ownsRow base e size v' (n + 1) (xs ++ cs) ∧ Below base W w' ∧ (∀ j, j < W.heap.size → v.ownBlock ≠ some j → w'.heap[j]? = W.heap[j]?) ∧ ∀ k, v'.ownBlock = some k → v.ownBlock = some k ∨ W.heap.size ≤ k) := by
  obtain ⟨i0, hi0, hz0⟩ := Option.map_eq_some_iff.1 hi
  simp only [Prod.mk.injEq] at hz0
  have hB := nbel W (.cells cs.toArray e)
  have hO := own_keep own hB
  have hN : ∀ (j : Nat) (u : Value), cs[j]? = some u → (W.alloc (.cells cs.toArray e)).cell? ((⟨W.heap.size, 0, none⟩ : Addr).add j) = some u := World.news_of_block (thnK W _)
  have hs : (W.alloc (.cells cs.toArray e)).heap.size = W.heap.size + 1 := World.size_alloc _ _
  have hbb : (n + 1) * bytes ≤ 140737488355328 := Nat.le_trans (Nat.mul_le_mul hn hb) (by decide)
  have hr := run_append_own_at (P := Tryd.prog) (W.alloc (.cells cs.toArray e)) base t 0 e i0 z size bytes ht hi0 hz0.1 hz0.2.1 hz0.2.2 hz hsz v n xs hO ⟨W.heap.size, 0, none⟩ 1 1 cs (by rw [hcs, Nat.one_mul]) hN h1 (by simp only [maxLen]; omega) hbb (by omega)
  obtain ⟨v', w', q1, q2, q3, _, q5⟩ := hr
  refine ⟨v', w', fun _ => q1, q2, grown_below hB q3 hbase (fun j hj => (own.lt j hj).1), fun j hj hn => (q3.block j (by omega) (fun e => hn e.symm)).trans (hB.block j hj), fun k hk => ?_⟩
  rcases q5 with q5 | q5
  · exact .inl (by rw [← q5]; exact hk)
  · rw [q5] at hk
    cases hk
    exact .inr (by omega)
/-- A row of calls. -/
def COwn (w : World) (base : Nat) (v : Value) (cs : List Oc) : Prop := w.ownsRow base 45 5 v cs.length (ocCs cs)
theorem infoCa : (Tryd.prog.info? 45).map (fun i => (i.zero, i.size, i.bytes)) = some (some (.agg #[.int .i64 0, .string ⟨#[]⟩, .slice none 0 0, .int .i64 0, .string ⟨#[]⟩]), 5, 72) := by kernel_rfl
theorem infoSt : (Tryd.prog.info? 9).map (fun i => (i.zero, i.size, i.bytes)) = some (some (.string ⟨#[]⟩), 1, 16) := by kernel_rfl
theorem ocCs_append (a b : List Oc) : ocCs (a ++ b) = ocCs a ++ ocCs b := by
  induction a with
  | nil => rfl
  | cons c a ih => rw [List.cons_append, ocCs, ocCs, ih, List.append_assoc]
theorem ocC_one (c : Oc) : ∀ u ∈ ocC c, u.oneCell' = true := by
  intro u hu
  simp only [ocC, List.mem_cons, List.not_mem_nil, or_false] at hu
  rcases hu with rfl | rfl | rfl | rfl | rfl <;> rfl
theorem c_ap {W : World} {base : Nat} {v : Value} {cs : List Oc} (c : Oc) (h : COwn W base v cs) (hl : cs.length + 1 ≤ 100000000000) (hb : base ≤ W.heap.size) :
    ∃ v' w', (∀ ty, (Builtin.append_ #[31, 31] ty #[v, .slice (some ⟨W.heap.size, 0, none⟩) 1 1]).run Tryd.prog (W.alloc (.cells #[.int .i64 c.k, .string c.nm, .slice none 0 0, .int .i64 c.cnt, .string ⟨#[]⟩] 45)) = .ok v' w') ∧ (COwn w' base v' (cs ++ [c]) ∧ Below base W w' ∧ (∀ j, j < W.heap.size → v.ownBlock ≠ some j → w'.heap[j]? = W.heap[j]?) ∧ ∀ k, v'.ownBlock = some k → v.ownBlock = some k ∨ W.heap.size ≤ k) := by
  obtain ⟨v', w', h1, h2, h3⟩ := ap_gen (W := W) Tryd.underlying31 infoCa rfl (by decide) h (ocC c) rfl (ocC_one c) hl (by decide) hb
  refine ⟨v', w', h1, ?_, h3⟩
  unfold COwn
  rw [List.length_append, ocCs_append]
  simpa [ocCs] using h2
/-- A row of texts. -/
def SOwn (w : World) (base : Nat) (v : Value) (ss : List ByteArray) : Prop := w.ownsRow base 9 1 v ss.length (ss.map Value.string)
theorem st_ap {W : World} {base : Nat} {v : Value} {ss : List ByteArray} (s : ByteArray) (h : SOwn W base v ss) (hl : ss.length + 1 ≤ 100000000000) (hb : base ≤ W.heap.size) :
    ∃ v' w', (∀ ty, (Builtin.append_ #[80, 80] ty #[v, .slice (some ⟨W.heap.size, 0, none⟩) 1 1]).run Tryd.prog (W.alloc (.cells #[.string s] 9)) = .ok v' w') ∧ (SOwn w' base v' (ss ++ [s]) ∧ Below base W w' ∧ (∀ j, j < W.heap.size → v.ownBlock ≠ some j → w'.heap[j]? = W.heap[j]?) ∧ ∀ k, v'.ownBlock = some k → v.ownBlock = some k ∨ W.heap.size ≤ k) := by
  obtain ⟨v', w', h1, h2, h3⟩ := ap_gen (W := W) Tryd.underlying80 infoSt rfl (by decide) h [.string s] rfl (by simp [Value.oneCell']) hl (by decide) hb
  refine ⟨v', w', h1, ?_, h3⟩
  unfold SOwn
  rw [List.length_append, List.map_append]
  exact h2
theorem i_apG {W : World} {base : Nat} {v : Value} {ns : List Nat} (k : Nat) (h : NRow W base v ns) (hl : ns.length + 1 ≤ 100000000000) (hb : base ≤ W.heap.size) :
    ∃ v' w', (∀ ty, (Builtin.append_ #[47, 47] ty #[v, .slice (some ⟨W.heap.size, 0, none⟩) 1 1]).run Tryd.prog (W.alloc (.cells #[.int .i64 (k : Int)] 3)) = .ok v' w') ∧ (NRow w' base v' (ns ++ [k]) ∧ Below base W w' ∧ (∀ j, j < W.heap.size → v.ownBlock ≠ some j → w'.heap[j]? = W.heap[j]?) ∧ ∀ k, v'.ownBlock = some k → v.ownBlock = some k ∨ W.heap.size ≤ k) := by
  obtain ⟨v', w', h1, h2, h3⟩ := ap_gen (W := W) Tryd.underlying47 infoInt rfl (by decide) h [.int .i64 (k : Int)] rfl (by simp [Value.oneCell']) hl (by decide) hb
  refine ⟨v', w', h1, ?_, h3⟩
  unfold NRow
  rw [List.length_append, List.map_append]
  exact h2
/-- What a run leaves: the choices' block and the list's own may have changed. -/
structure FW (cb : Nat) (w : World) (v : Value) (w' : World) (v' : Value) : Prop where
  fr : Frm (fun k => k = cb ∨ v.ownBlock = some k) w w'
  ob : ∀ k, v'.ownBlock = some k → v.ownBlock = some k ∨ w.heap.size ≤ k
theorem FW.below {cb : Nat} {w w' : World} {v : Value} (h : Below w.heap.size w w') : FW cb w v w' v := ⟨Frm.of_below h, fun _ hk => .inl hk⟩
theorem FW.kb {cb : Nat} {w w' : World} {v : Value} (h : Kb [cb] w w') : FW cb w v w' v := ⟨Frm.of_kb h fun _ hk => .inl (List.mem_singleton.1 hk), fun _ hk => .inl hk⟩
theorem FW.trans {cb : Nat} {w w1 w2 : World} {v v1 v2 : Value} (h : FW cb w v w1 v1) (h' : FW cb w1 v1 w2 v2) : FW cb w v w2 v2 := by
  have hs := h.fr.size
  refine ⟨⟨h'.fr.os.trans h.fr.os, h'.fr.tape.trans h.fr.tape, h'.fr.output.trans h.fr.output, Nat.le_trans hs h'.fr.size, fun k hk hn => ?_⟩, fun k hk => ?_⟩
  · refine (h'.fr.block k (by omega) fun e => hn ?_).trans (h.fr.block k hk hn)
    rcases e with e | e
    · exact .inl e
    · rcases h.ob k e with e | e
      · exact .inr e
      · omega
  · rcases h'.ob k hk with e | e
    · exact h.ob k e
    · exact .inr (by omega)
theorem FW.low {cb : Nat} {w w' : World} {v v' : Value} (h : FW cb w v w' v') (hv : ∀ k, v.ownBlock = some k → cb ≤ k) (hc : cb ≤ w.heap.size) : Below cb w w' :=
  h.fr.below (fun k hk => by rcases hk with rfl | hk; exact Nat.le_refl _; exact hv k hk) hc
theorem FW.own {cb : Nat} {w w' : World} {v v' : Value} {base : Nat} {e : TypeId} {s n : Nat} {u : Value} {xs : List Value} (h : FW cb w v w' v') (hu : w.ownsRow base e s u n xs) (hc : cb < base) (hd : ∀ k, u.ownBlock = some k → v.ownBlock ≠ some k) : w'.ownsRow base e s u n xs :=
  own_keepP hu fun k hk => h.fr.block k (hu.lt k hk).2 fun e => by
    rcases e with e | e
    · have := (hu.lt k hk).1; omega
    · exact hd k hk e
/-- How many entries may still be begun, by the length of what was called. -/
def ph (n : Nat) : Nat := 3 * (201 - n)
def Ph (T n : Nat) : Nat := n + (T + 1) * ph n
theorem ph_succ (n : Nat) : ph (n + 1) ≤ ph n := by unfold ph; omega
theorem ph_drop {n : Nat} (h : n ≤ 200) : ph (n + 1) + 3 = ph n := by unfold ph; omega
theorem Ph_succ (T n : Nat) : Ph T (n + 1) ≤ Ph T n + 1 := by
  unfold Ph
  have := Nat.mul_le_mul_left (T + 1) (ph_succ n)
  omega
theorem Ph_drop {T n : Nat} (h : n ≤ 200) : Ph T (n + 1) + 3 * (T + 1) = Ph T n + 1 := by
  have e := ph_drop h
  have e2 : (T + 1) * ph n = (T + 1) * ph (n + 1) + (T + 1) * 3 := by rw [← e, Nat.mul_add]
  unfold Ph
  omega
theorem Ph_ge (T n : Nat) : n ≤ Ph T n := Nat.le_add_right _ _
theorem RowR_snoc {l : List Tk} {R : Nat → List Oc → Prop} {q : Nat} {m : List Oc} (hm : (opAt l q = 6 ∧ m = [⟨3, nmAt l q, 0⟩]) ∨ (opAt l q = 4 ∧ ∃ es : List (List Oc), es.length ≤ 3 ∧ m = ⟨1, nmAt l q, (es.length : Int)⟩ :: es.flatMap (fun e => ⟨2, ⟨#[]⟩, 0⟩ :: e) ∧ ∀ e ∈ es, R q e)) : ∀ {don : List Nat} {rs : List Oc}, RowR l R don rs → RowR l R (don ++ [q]) (rs ++ m)
  | [], rs, h => by
    obtain rfl : rs = [] := h
    exact ⟨m, [], by simp, rfl, hm⟩
  | p :: don, rs, ⟨a, b, e, h1, h2⟩ => ⟨a, b ++ m, by rw [e, List.append_assoc], RowR_snoc hm h1, h2⟩
theorem RunD_up {l : List Tk} : ∀ {d p : Nat} {cs : List Oc}, RunD l d p cs → ∀ {d'}, d ≤ d' → RunD l d' p cs
  | 0, _, _, h, _, _ => h.elim
  | d + 1, p, cs, ⟨fs, rs, e, hf, hr⟩, d', hd => by
    cases d' with
    | zero => omega
    | succ d' =>
      refine ⟨fs, rs, e, hf, ?_⟩
      have key : ∀ (row : List Nat) (rs : List Oc), RowR l (RunD l d) row rs → RowR l (RunD l d') row rs := by
        intro row
        induction row with
        | nil => exact fun rs h => h
        | cons q r ih =>
          rintro rs ⟨a, b, e, h1, h2⟩
          refine ⟨a, b, e, ih b h1, ?_⟩
          rcases h2 with h2 | ⟨h2, es, h3, h4, h5⟩
          · exact .inl h2
          · exact .inr ⟨h2, es, h3, h4, fun e he => RunD_up (h5 e he) (by omega)⟩
      exact key _ _ hr
end Go.Proofs.YtepnmfgbflogkaaDoor

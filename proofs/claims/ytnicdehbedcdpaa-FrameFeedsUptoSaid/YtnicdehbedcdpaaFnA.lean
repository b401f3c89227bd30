/- Two framers, the document's beside them, and the book of what was answered. -/
import Derived.Test.YtnicdehbedcdpaaFmR
import Derived.Test.YtnicdehbedcdpaaFmM
namespace Go.Proofs.Ytnicdehbedcdpaa
open Go.ChangeShapes Go.WideShapes Go.ChangeAt Go.RowKit

/-- What the book holds of one answer. -/
structure Ent where
  pa : Option Addr
  n : Nat
  ca : Nat
  pb : Option Addr
  cb : Nat
def entV (e : Ent) (k : Nat) : List Value := [.slice e.pa e.n e.ca, .slice e.pb (e.n + 1) e.cb, .int .i64 (k : Int)]
def entF : List Ent → Nat → List Value
  | [], _ => []
  | e :: r, k => entV e k ++ entF r (k + 1)
theorem entF_append (a b : List Ent) (k : Nat) : entF (a ++ b) k = entF a k ++ entF b (k + a.length) := by
  induction a generalizing k with
  | nil => rfl
  | cons e r ih =>
    show entV e k ++ entF (r ++ b) (k + 1) = entV e k ++ entF r (k + 1) ++ entF b (k + (r.length + 1))
    rw [ih, List.append_assoc, show k + 1 + r.length = k + (r.length + 1) by omega]
theorem entF_length (a : List Ent) (k : Nat) : (entF a k).length = a.length * 3 := by
  induction a generalizing k with
  | nil => rfl
  | cons e r ih =>
    show (entV e k ++ entF r (k + 1)).length = (r.length + 1) * 3
    rw [List.length_append, ih]
    show 3 + _ = _
    omega
theorem entF_get : ∀ (a : List Ent) (k i : Nat) (e : Ent), a[i]? = some e → ∀ j, j < 3 → (entF a k)[i * 3 + j]? = (entV e (k + i))[j]?
  | [], _, _, _, h, _, _ => by cases h
  | x :: r, k, 0, e, h, j, hj => by
    cases h
    show (entV x k ++ entF r (k + 1))[0 * 3 + j]? = _
    rw [List.getElem?_append_left (by show 0 * 3 + j < 3; omega), Nat.zero_mul, Nat.zero_add]
    rfl
  | x :: r, k, i + 1, e, h, j, hj => by
    have ih := entF_get r (k + 1) i e h j hj
    show (entV x k ++ entF r (k + 1))[(i + 1) * 3 + j]? = _
    have hl : (entV x k).length = 3 := rfl
    rw [List.getElem?_append_right (by omega), hl, show k + (i + 1) = k + 1 + i by omega, ← ih]
    congr 1
    omega
theorem entF_one : ∀ (a : List Ent) (k : Nat), ∀ u ∈ entF a k, u.oneCell' = true
  | [], _, _, h => by cases h
  | e :: r, k, u, h => by
    rcases List.mem_append.1 (show u ∈ entV e k ++ entF r (k + 1) from h) with h | h
    · simp only [entV, List.mem_cons, List.not_mem_nil, or_false] at h
      rcases h with rfl | rfl | rfl <;> rfl
    · exact entF_one r (k + 1) u h
/-- The law's state. -/
structure FS where
  x5 : Nat
  x6 : Nat
  P : Nat → Nat
  Q : Nat → Nat
  v : Nat → Value
  L : Nat → List Nat
  lim : Nat → Int
  er : Nat → Int
  vb : Value
  es : List Ent
/-- The blocks that may be written. -/
def FS.hot (s : FS) : Nat → Option Nat
  | 0 => some s.x5
  | 1 => some s.x6
  | 2 => some (s.P 0)
  | 3 => some (s.P 1)
  | 4 => some (s.Q 0)
  | 5 => some (s.Q 1)
  | 6 => (s.v 0).ownBlock
  | 7 => (s.v 1).ownBlock
  | 8 => s.vb.ownBlock
  | _ => none
abbrev pt (k : Nat) : Value := .pointer (some ⟨k, 0, none⟩)
structure FInv (W : World) (B N : Nat) (s : FS) : Prop where
  bz : B ≤ W.heap.size
  h5 : W.heap[s.x5]? = some (.cells #[pt (s.P 0), pt (s.P 1)] 50 (0, 0))
  h6 : W.heap[s.x6]? = some (.cells #[pt (s.Q 0), pt (s.Q 1)] 53 (0, 0))
  fr : ∀ a, a < 2 → Fr W B (s.P a) (s.v a) (s.L a) 0 (s.lim a) (s.er a) ∧ Buf W B (s.v a) (s.L a) ∧ RF W (s.Q a) (s.L a) (s.lim a) (s.er a) ∧ (s.er a ≠ 0 → s.L a = []) ∧ (s.L a).length ≤ N
  bk : W.ownsRow B 43 3 s.vb s.es.length (entF s.es 0)
  en : ∀ (k : Nat) (e : Ent), s.es[k]? = some e → PRow W e.pa W.heap.size (List.replicate e.n (mkP (k : Int))) ∧ PRow W e.pb W.heap.size (List.replicate (e.n + 1) (mkP (k : Int))) ∧ e.n ≤ 4398046511103
  lt : ∀ i k, s.hot i = some k → B ≤ k ∧ k < W.heap.size
  ap : ∀ i j, i ≠ j → ∀ k, s.hot i = some k → s.hot j ≠ some k
  cold : ∀ (k : Nat) (e : Ent), s.es[k]? = some e → ∀ a : Addr, e.pa = some a ∨ e.pb = some a → ∀ i, s.hot i ≠ some a.block
  cl : ∀ (k : Nat) (e : Ent), s.es[k]? = some e → ∀ a : Addr, e.pa = some a ∨ e.pb = some a → a.block < W.heap.size
theorem FInv.keep {W W' : World} {B N : Nat} {s : FS} (h : FInv W B N s) (hb : Below W.heap.size W W') : FInv W' B N s := by
  have e : ∀ i k, s.hot i = some k → W'.heap[k]? = W.heap[k]? := fun i k hk => hb.block k (h.lt i k hk).2
  refine ⟨Nat.le_trans h.bz hb.size, (e 0 _ rfl).trans h.h5, (e 1 _ rfl).trans h.h6, fun a ha => ?_, ownSame h.bk (fun k hk => e 8 k hk), fun k x hx => ?_, fun i k hk => ⟨(h.lt i k hk).1, Nat.lt_of_lt_of_le (h.lt i k hk).2 hb.size⟩, h.ap, h.cold, fun k x hx y hy => Nat.lt_of_lt_of_le (h.cl k x hx y hy) hb.size⟩
  · obtain ⟨h1, h2, h3, h4, h5⟩ := h.fr a ha
    exact ⟨h1.below hb, h2.below hb, h3.below hb, h4, h5⟩
  · obtain ⟨h1, h2, h3⟩ := h.en k x hx
    exact ⟨(h1.below hb).mono hb.size, (h2.below hb).mono hb.size, h3⟩
/-- One framer's pair and the book have turned. -/
def FS.turn (s : FS) (a : Nat) (v : Value) (L : List Nat) (er : Int) (vb : Value) (e : Ent) : FS :=
  { s with v := fun x => if x = a then v else s.v x, L := fun x => if x = a then L else s.L x, er := fun x => if x = a then er else s.er x, vb := vb, es := s.es ++ [e] }
theorem FInv.turn {W W' : World} {B N N' : Nat} {s : FS} (h : FInv W B N s) (hs : W.heap.size ≤ W'.heap.size) (a : Nat) (ha : a < 2) (hN : N ≤ N') (v vb : Value) (L : List Nat) (er : Int) (e : Ent)
    (hk : ∀ k, k < W.heap.size → k ≠ s.Q a → k ≠ s.P a → (s.v a).ownBlock ≠ some k → s.vb.ownBlock ≠ some k → W'.heap[k]? = W.heap[k]?)
    (hF : Fr W' B (s.P a) v L 0 (s.lim a) er) (hBf : Buf W' B v L) (hR : RF W' (s.Q a) L (s.lim a) er) (hE : er ≠ 0 → L = []) (hL : L.length ≤ N')
    (hv : ∀ k, v.ownBlock = some k → (s.v a).ownBlock = some k ∨ W.heap.size ≤ k)
    (hb : W'.ownsRow B 43 3 vb (s.es.length + 1) (entF (s.es ++ [e]) 0)) (hvb : ∀ k, vb.ownBlock = some k → s.vb.ownBlock = some k ∨ W.heap.size ≤ k) (hne : ∀ k, v.ownBlock = some k → vb.ownBlock ≠ some k)
    (h1 : PRow W' e.pa W'.heap.size (List.replicate e.n (mkP (s.es.length : Int)))) (h2 : PRow W' e.pb W'.heap.size (List.replicate (e.n + 1) (mkP (s.es.length : Int)))) (hn : e.n ≤ 4398046511103)
    (hc : ∀ x : Addr, e.pa = some x ∨ e.pb = some x → W.heap.size ≤ x.block ∧ x.block < W'.heap.size ∧ v.ownBlock ≠ some x.block ∧ vb.ownBlock ≠ some x.block) : FInv W' B N' (s.turn a v L er vb e) := by
  have hot : ∀ i k, (s.turn a v L er vb e).hot i = some k → s.hot i = some k ∨ (W.heap.size ≤ k ∧ ((i = 6 + a ∧ v.ownBlock = some k) ∨ (i = 8 ∧ vb.ownBlock = some k))) := fun i k hk => by
    have ha2 : a = 0 ∨ a = 1 := by omega
    match i, hk with
    | 0, hk => exact .inl hk
    | 1, hk => exact .inl hk
    | 2, hk => exact .inl hk
    | 3, hk => exact .inl hk
    | 4, hk => exact .inl hk
    | 5, hk => exact .inl hk
    | 6, hk =>
      rcases ha2 with rfl | rfl
      · have hk' : v.ownBlock = some k := hk
        rcases hv k hk' with h1 | h1
        · exact .inl h1
        · exact .inr ⟨h1, .inl ⟨rfl, hk'⟩⟩
      · exact .inl hk
    | 7, hk =>
      rcases ha2 with rfl | rfl
      · exact .inl hk
      · have hk' : v.ownBlock = some k := hk
        rcases hv k hk' with h1 | h1
        · exact .inl h1
        · exact .inr ⟨h1, .inl ⟨rfl, hk'⟩⟩
    | 8, hk =>
      have hk' : vb.ownBlock = some k := hk
      rcases hvb k hk' with h1 | h1
      · exact .inl h1
      · exact .inr ⟨h1, .inr ⟨rfl, hk'⟩⟩
    | n + 9, hk => cases hk
  have ha2 : a = 0 ∨ a = 1 := by omega
  have hP : s.hot (2 + a) = some (s.P a) := by rcases ha2 with rfl | rfl <;> rfl
  have hQ : s.hot (4 + a) = some (s.Q a) := by rcases ha2 with rfl | rfl <;> rfl
  have hV : s.hot (6 + a) = (s.v a).ownBlock := by rcases ha2 with rfl | rfl <;> rfl
  have hV8 : s.hot 8 = s.vb.ownBlock := rfl
  have un : ∀ i k, s.hot i = some k → i ≠ 2 + a → i ≠ 4 + a → i ≠ 6 + a → i ≠ 8 → W'.heap[k]? = W.heap[k]? := fun i k hi h2 h4 h6 h8 =>
    hk k (h.lt i k hi).2 (fun e => h.ap i (4 + a) h4 k hi (by rw [hQ, e])) (fun e => h.ap i (2 + a) h2 k hi (by rw [hP, e])) (fun e => h.ap i (6 + a) h6 k hi (by rw [hV, e])) (fun e => h.ap i 8 h8 k hi e)
  have unE : ∀ (k : Nat) (x : Ent), s.es[k]? = some x → ∀ y : Addr, x.pa = some y ∨ x.pb = some y → y.block < W.heap.size → W'.heap[y.block]? = W.heap[y.block]? := fun k x hx y hy hl =>
    hk _ hl (fun e => h.cold k x hx y hy (4 + a) (by rw [hQ, e])) (fun e => h.cold k x hx y hy (2 + a) (by rw [hP, e])) (fun e => h.cold k x hx y hy (6 + a) (by rw [hV, e])) (fun e => h.cold k x hx y hy 8 e)
  have hlen : (s.turn a v L er vb e).es.length = s.es.length + 1 := by show (s.es ++ [e]).length = _; simp
  refine ⟨Nat.le_trans h.bz hs, (un 0 _ rfl (by omega) (by omega) (by omega) (by omega)).trans h.h5, (un 1 _ rfl (by omega) (by omega) (by omega) (by omega)).trans h.h6, fun b hb2 => ?_, by rw [hlen]; exact hb, fun k x hx => ?_, fun i k hi => ?_, fun i j hij k hi hj => ?_, fun k x hx y hy i hi => ?_, fun k x hx y hy => ?_⟩
  · by_cases hba : b = a
    · subst hba
      show Fr W' B (s.P b) (if b = b then v else s.v b) (if b = b then L else s.L b) 0 (s.lim b) (if b = b then er else s.er b) ∧ Buf W' B (if b = b then v else s.v b) (if b = b then L else s.L b) ∧ RF W' (s.Q b) (if b = b then L else s.L b) (s.lim b) (if b = b then er else s.er b) ∧ ((if b = b then er else s.er b) ≠ 0 → (if b = b then L else s.L b) = []) ∧ (if b = b then L else s.L b).length ≤ N'
      simp only [if_true]
      exact ⟨hF, hBf, hR, hE, hL⟩
    · show Fr W' B (s.P b) (if b = a then v else s.v b) (if b = a then L else s.L b) 0 (s.lim b) (if b = a then er else s.er b) ∧ Buf W' B (if b = a then v else s.v b) (if b = a then L else s.L b) ∧ RF W' (s.Q b) (if b = a then L else s.L b) (s.lim b) (if b = a then er else s.er b) ∧ ((if b = a then er else s.er b) ≠ 0 → (if b = a then L else s.L b) = []) ∧ (if b = a then L else s.L b).length ≤ N'
      simp only [if_neg hba]
      obtain ⟨g1, g2, g3, g4, g5⟩ := h.fr b hb2
      have hb3 : b = 0 ∨ b = 1 := by omega
      have hPb : s.hot (2 + b) = some (s.P b) := by rcases hb3 with rfl | rfl <;> rfl
      have hQb : s.hot (4 + b) = some (s.Q b) := by rcases hb3 with rfl | rfl <;> rfl
      have hVb : s.hot (6 + b) = (s.v b).ownBlock := by rcases hb3 with rfl | rfl <;> rfl
      have uP := un (2 + b) _ hPb (by omega) (by omega) (by omega) (by omega)
      have uQ := un (4 + b) _ hQb (by omega) (by omega) (by omega) (by omega)
      have uV : ∀ k, (s.v b).ownBlock = some k → W'.heap[k]? = W.heap[k]? := fun k hk' => un (6 + b) k (by rw [hVb]; exact hk') (by omega) (by omega) (by omega) (by omega)
      exact ⟨g1.kx hs uP uV, ownSame g2 uV, g3.same uQ hs, g4, Nat.le_trans g5 hN⟩
  · by_cases hlt : k < s.es.length
    · have hx' : s.es[k]? = some x := by
        have : (s.es ++ [e])[k]? = some x := hx
        rwa [List.getElem?_append_left hlt] at this
      obtain ⟨g1, g2, g3⟩ := h.en k x hx'
      exact ⟨(g1.of fun y hy hl => unE k x hx' y (.inl hy) hl).mono hs, (g2.of fun y hy hl => unE k x hx' y (.inr hy) hl).mono hs, g3⟩
    · have hx' : (s.es ++ [e])[k]? = some x := hx
      rw [List.getElem?_append_right (by omega)] at hx'
      have hk0 : k - s.es.length = 0 := by
        have := (List.getElem?_eq_some_iff.1 hx').1
        simp at this
        omega
      rw [hk0] at hx'
      cases hx'
      have : k = s.es.length := by omega
      subst this
      exact ⟨h1, h2, hn⟩
  · rcases hot i k hi with h' | ⟨h', h''⟩
    · exact ⟨(h.lt i k h').1, Nat.lt_of_lt_of_le (h.lt i k h').2 hs⟩
    · rcases h'' with ⟨_, h3⟩ | ⟨_, h3⟩
      · exact ⟨Nat.le_trans h.bz h', (ownLt hBf h3).2⟩
      · exact ⟨Nat.le_trans h.bz h', (ownLt hb h3).2⟩
  · rcases hot i k hi with h' | ⟨h', h''⟩
    · rcases hot j k hj with h3 | ⟨h3, _⟩
      · exact h.ap i j hij k h' h3
      · have := (h.lt i k h').2; omega
    · rcases hot j k hj with h3 | ⟨_, h3⟩
      · have := (h.lt j k h3).2; omega
      · rcases h'' with ⟨e1, h4⟩ | ⟨e1, h4⟩ <;> rcases h3 with ⟨e2, h5⟩ | ⟨e2, h5⟩
        · omega
        · exact hne k h4 h5
        · exact hne k h5 h4
        · omega
  · by_cases hlt : k < s.es.length
    · have hx' : s.es[k]? = some x := by
        have : (s.es ++ [e])[k]? = some x := hx
        rwa [List.getElem?_append_left hlt] at this
      rcases hot i _ hi with h' | ⟨h', _⟩
      · exact h.cold k x hx' y hy i h'
      · have := h.cl k x hx' y hy; omega
    · have hx' : (s.es ++ [e])[k]? = some x := hx
      rw [List.getElem?_append_right (by omega)] at hx'
      have hk0 : k - s.es.length = 0 := by
        have := (List.getElem?_eq_some_iff.1 hx').1
        simp at this
        omega
      rw [hk0] at hx'
      cases hx'
      obtain ⟨g1, _, g2, g3⟩ := hc y hy
      rcases hot i _ hi with h' | ⟨_, h' | h'⟩
      · have := (h.lt i _ h').2; omega
      · exact g2 h'.2
      · exact g3 h'.2
  · by_cases hlt : k < s.es.length
    · have hx' : s.es[k]? = some x := by
        have : (s.es ++ [e])[k]? = some x := hx
        rwa [List.getElem?_append_left hlt] at this
      exact Nat.lt_of_lt_of_le (h.cl k x hx' y hy) hs
    · have hx' : (s.es ++ [e])[k]? = some x := hx
      rw [List.getElem?_append_right (by omega)] at hx'
      have hk0 : k - s.es.length = 0 := by
        have := (List.getElem?_eq_some_iff.1 hx').1
        simp at this
        omega
      rw [hk0] at hx'
      cases hx'
      exact (hc y hy).2.1
/-- A new framer in a's place. -/
def FS.renew (s : FS) (a P Q : Nat) (lim : Int) : FS :=
  { s with P := fun x => if x = a then P else s.P x, Q := fun x => if x = a then Q else s.Q x, v := fun x => if x = a then .slice none 0 0 else s.v x, L := fun x => if x = a then [] else s.L x, lim := fun x => if x = a then lim else s.lim x, er := fun x => if x = a then 0 else s.er x }
theorem FInv.renew {W W' : World} {B N : Nat} {s : FS} (h : FInv W B N s) (hs : W.heap.size ≤ W'.heap.size) (a : Nat) (ha : a < 2) (P Q : Nat) (lim : Int) (hk : ∀ k, k < W.heap.size → k ≠ s.x5 → k ≠ s.x6 → W'.heap[k]? = W.heap[k]?)
    (hP : W.heap.size ≤ P) (hPQ : P < Q) (hQ : Q < W'.heap.size) (h5 : W'.heap[s.x5]? = some (.cells #[pt (if 0 = a then P else s.P 0), pt (if 1 = a then P else s.P 1)] 50 (0, 0))) (h6 : W'.heap[s.x6]? = some (.cells #[pt (if 0 = a then Q else s.Q 0), pt (if 1 = a then Q else s.Q 1)] 53 (0, 0)))
    (hF : Fr W' B P (.slice none 0 0) [] 0 lim 0) (hR : RF W' Q [] lim 0) : FInv W' B N (s.renew a P Q lim) := by
  have ha2 : a = 0 ∨ a = 1 := by omega
  have hot : ∀ i k, (s.renew a P Q lim).hot i = some k → s.hot i = some k ∨ (i = 2 + a ∧ k = P) ∨ (i = 4 + a ∧ k = Q) := fun i k hk => by
    rcases ha2 with rfl | rfl
    · match i, hk with
      | 0, hk => exact .inl hk
      | 1, hk => exact .inl hk
      | 2, hk => cases hk; exact .inr (.inl ⟨rfl, rfl⟩)
      | 3, hk => exact .inl hk
      | 4, hk => cases hk; exact .inr (.inr ⟨rfl, rfl⟩)
      | 5, hk => exact .inl hk
      | 6, hk => cases hk
      | 7, hk => exact .inl hk
      | 8, hk => exact .inl hk
      | n + 9, hk => cases hk
    · match i, hk with
      | 0, hk => exact .inl hk
      | 1, hk => exact .inl hk
      | 2, hk => exact .inl hk
      | 3, hk => cases hk; exact .inr (.inl ⟨rfl, rfl⟩)
      | 4, hk => exact .inl hk
      | 5, hk => cases hk; exact .inr (.inr ⟨rfl, rfl⟩)
      | 6, hk => exact .inl hk
      | 7, hk => cases hk
      | 8, hk => exact .inl hk
      | n + 9, hk => cases hk
  have un : ∀ i k, s.hot i = some k → i ≠ 0 → i ≠ 1 → W'.heap[k]? = W.heap[k]? := fun i k hi h0 h1 => hk k (h.lt i k hi).2 (fun e => h.ap i 0 h0 k hi (by rw [e]; rfl)) (fun e => h.ap i 1 h1 k hi (by rw [e]; rfl))
  refine ⟨Nat.le_trans h.bz hs, h5, h6, fun b hb2 => ?_, ownSame h.bk (fun k hk' => un 8 k hk' (by decide) (by decide)), fun k x hx => ?_, fun i k hi => ?_, fun i j hij k hi hj => ?_, fun k x hx y hy i hi => ?_, fun k x hx y hy => Nat.lt_of_lt_of_le (h.cl k x hx y hy) hs⟩
  · by_cases hba : b = a
    · subst hba
      show Fr W' B (if b = b then P else s.P b) (if b = b then .slice none 0 0 else s.v b) (if b = b then [] else s.L b) 0 (if b = b then lim else s.lim b) (if b = b then 0 else s.er b) ∧ Buf W' B (if b = b then .slice none 0 0 else s.v b) (if b = b then [] else s.L b) ∧ RF W' (if b = b then Q else s.Q b) (if b = b then [] else s.L b) (if b = b then lim else s.lim b) (if b = b then 0 else s.er b) ∧ ((if b = b then 0 else s.er b) ≠ 0 → (if b = b then [] else s.L b) = []) ∧ (if b = b then [] else s.L b).length ≤ N
      simp only [if_true]
      exact ⟨hF, Buf.nil _ _, hR, by simp, Nat.zero_le _⟩
    · show Fr W' B (if b = a then P else s.P b) (if b = a then .slice none 0 0 else s.v b) (if b = a then [] else s.L b) 0 (if b = a then lim else s.lim b) (if b = a then 0 else s.er b) ∧ Buf W' B (if b = a then .slice none 0 0 else s.v b) (if b = a then [] else s.L b) ∧ RF W' (if b = a then Q else s.Q b) (if b = a then [] else s.L b) (if b = a then lim else s.lim b) (if b = a then 0 else s.er b) ∧ ((if b = a then 0 else s.er b) ≠ 0 → (if b = a then [] else s.L b) = []) ∧ (if b = a then [] else s.L b).length ≤ N
      simp only [if_neg hba]
      obtain ⟨g1, g2, g3, g4, g5⟩ := h.fr b hb2
      have hb3 : b = 0 ∨ b = 1 := by omega
      have hPb : s.hot (2 + b) = some (s.P b) := by rcases hb3 with rfl | rfl <;> rfl
      have hQb : s.hot (4 + b) = some (s.Q b) := by rcases hb3 with rfl | rfl <;> rfl
      have hVb : s.hot (6 + b) = (s.v b).ownBlock := by rcases hb3 with rfl | rfl <;> rfl
      have uV : ∀ k, (s.v b).ownBlock = some k → W'.heap[k]? = W.heap[k]? := fun k hk' => un (6 + b) k (by rw [hVb]; exact hk') (by omega) (by omega)
      exact ⟨g1.kx hs (un (2 + b) _ hPb (by omega) (by omega)) uV, ownSame g2 uV, g3.same (un (4 + b) _ hQb (by omega) (by omega)) hs, g4, g5⟩
  · obtain ⟨g1, g2, g3⟩ := h.en k x hx
    have u : ∀ y : Addr, x.pa = some y ∨ x.pb = some y → W'.heap[y.block]? = W.heap[y.block]? := fun y hy => hk _ (h.cl k x hx y hy) (fun e => h.cold k x hx y hy 0 (by rw [e]; rfl)) (fun e => h.cold k x hx y hy 1 (by rw [e]; rfl))
    exact ⟨(g1.of fun y hy _ => u y (.inl hy)).mono hs, (g2.of fun y hy _ => u y (.inr hy)).mono hs, g3⟩
  · rcases hot i k hi with h' | ⟨_, rfl⟩ | ⟨_, rfl⟩
    · exact ⟨(h.lt i k h').1, Nat.lt_of_lt_of_le (h.lt i k h').2 hs⟩
    · exact ⟨Nat.le_trans h.bz hP, by omega⟩
    · exact ⟨Nat.le_trans h.bz (by omega), hQ⟩
  · rcases hot i k hi with h' | ⟨e1, rfl⟩ | ⟨e1, rfl⟩ <;> rcases hot j _ hj with h3 | ⟨e2, e3⟩ | ⟨e2, e3⟩
    · exact h.ap i j hij _ h' h3
    · have := (h.lt i _ h').2; omega
    · have := (h.lt i _ h').2; omega
    · have := (h.lt j _ h3).2; omega
    · omega
    · omega
    · have := (h.lt j _ h3).2; omega
    · omega
    · omega
  · have hl := h.cl k x hx y hy
    rcases hot i _ hi with h' | ⟨_, e⟩ | ⟨_, e⟩
    · exact h.cold k x hx y hy i h'
    · omega
    · omega
end Go.Proofs.Ytnicdehbedcdpaa

/- A stream of bytes cut into parcels: the mathematics; parcels in memory. -/
import Derived.Test.YtnicdehbedcdpaaBuf
import Derived.Test.YtnicdehbedcdpaaTPf
import Derived.Deep.RegionHeld
import Derived.Deep.RegionLaw
namespace Go.Proofs.Ytnicdehbedcdpaa
open Go.ChangeShapes Go.WideShapes Go.ChangeAt Go.RowKit

structure Pcl where
  t : Int
  b : ByteArray
/-- The number of some bytes, the highest first. -/
def nmF (n : Nat) : List Nat → Nat
  | [] => n
  | x :: r => nmF (n * 256 + x) r
def nm (l : List Nat) : Nat := nmF 0 l
theorem nmF_append (a b : List Nat) (n : Nat) : nmF n (a ++ b) = nmF (nmF n a) b := by
  induction a generalizing n with
  | nil => rfl
  | cons x r ih => exact ih _
theorem nmF_lt : ∀ (l : List Nat) (n : Nat), (∀ x ∈ l, x < 256) → nmF n l < (n + 1) * 256 ^ l.length
  | [], n, _ => by simp [nmF]
  | x :: r, n, h => by
    have hx := h x (List.mem_cons_self ..)
    have := nmF_lt r (n * 256 + x) fun y hy => h y (List.mem_cons_of_mem _ hy)
    show nmF (n * 256 + x) r < _
    rw [List.length_cons, Nat.pow_succ]
    calc nmF (n * 256 + x) r < (n * 256 + x + 1) * 256 ^ r.length := this
      _ ≤ (n + 1) * 256 * 256 ^ r.length := Nat.mul_le_mul_right _ (by omega)
      _ = (n + 1) * (256 ^ r.length * 256) := by rw [Nat.mul_assoc, Nat.mul_comm 256]
theorem nm_lt {l : List Nat} {k : Nat} (h : ∀ x ∈ l, x < 256) (hk : l.length ≤ k) : nm l < 256 ^ k := by
  have := nmF_lt l 0 h
  have := Nat.pow_le_pow_right (n := 256) (by decide) hk
  show nmF 0 l < _
  omega
def knB (t : Int) : Bool := decide (t = 23520) || decide (t = 60240)
/-- The length, the encoding that a rest's beginning tells. -/
def lnZ (D : List Nat) : Nat := nm (D.take 4)
def kdZ (D : List Nat) : Nat := nm ((D.drop 4).take 2)
theorem lnZ_lt {D : List Nat} (h : ∀ x ∈ D, x < 256) : lnZ D < 4294967296 := nm_lt (k := 4) (fun x hx => h x (List.mem_of_mem_take hx)) (by rw [List.length_take]; omega)
theorem kdZ_lt {D : List Nat} (h : ∀ x ∈ D, x < 256) : kdZ D < 65536 := nm_lt (k := 2) (fun x hx => h x (List.mem_of_mem_drop (List.mem_of_mem_take hx))) (by rw [List.length_take]; omega)
/-- One look: 0 begun, 1 whole, 2 the length refuses, 3 the encoding does. -/
def lkZ (lim : Int) (D : List Nat) : Nat :=
  if D.length < 4 then 0 else if (lnZ D : Int) < 6 ∨ lim < (lnZ D : Int) then 2 else if D.length < 6 then 0 else if knB (kdZ D) = false then 3 else if D.length < lnZ D then 0 else 1
theorem lkZ_1 {lim : Int} {D : List Nat} (h : lkZ lim D = 1) : 6 ≤ lnZ D ∧ (lnZ D : Int) ≤ lim ∧ lnZ D ≤ D.length ∧ 6 ≤ D.length ∧ knB (kdZ D) = true := by
  unfold lkZ at h
  split at h
  · cases h
  split at h
  · cases h
  split at h
  · cases h
  split at h
  · cases h
  split at h
  · cases h
  rename_i h1 h2 h3 h4 h5
  refine ⟨by omega, by omega, by omega, by omega, by simpa using h4⟩
def pcZ (D : List Nat) : Pcl := ⟨kdZ D, sOf ((D.take (lnZ D)).drop 6)⟩
def erZ (k : Nat) : Int := if k = 2 then 240 else if k = 3 then 241 else 0
/-- The parcels of what is whole; how many bytes they take; what refuses the rest. -/
def cutZ (lim : Int) (D : List Nat) : List Pcl × Nat × Int :=
  if _h : lkZ lim D = 1 then (pcZ D :: (cutZ lim (D.drop (lnZ D))).1, lnZ D + (cutZ lim (D.drop (lnZ D))).2.1, (cutZ lim (D.drop (lnZ D))).2.2) else ([], 0, erZ (lkZ lim D))
termination_by D.length
decreasing_by all_goals (have := lkZ_1 (by assumption); rw [List.length_drop]; omega)
theorem cutZ_yes {lim : Int} {D : List Nat} (h : lkZ lim D = 1) : cutZ lim D = (pcZ D :: (cutZ lim (D.drop (lnZ D))).1, lnZ D + (cutZ lim (D.drop (lnZ D))).2.1, (cutZ lim (D.drop (lnZ D))).2.2) := by
  rw [cutZ, dif_pos h]
theorem cutZ_no {lim : Int} {D : List Nat} (h : lkZ lim D ≠ 1) : cutZ lim D = ([], 0, erZ (lkZ lim D)) := by
  rw [cutZ, dif_neg h]
theorem cutZ_le (lim : Int) (D : List Nat) : (cutZ lim D).2.1 ≤ D.length ∧ 6 * (cutZ lim D).1.length ≤ (cutZ lim D).2.1 := by
  by_cases h : lkZ lim D = 1
  · have k := lkZ_1 h
    have ih := cutZ_le lim (D.drop (lnZ D))
    rw [cutZ_yes h]
    rw [List.length_drop] at ih
    simp only [List.length_cons]
    omega
  · rw [cutZ_no h]
    simp
termination_by D.length
decreasing_by all_goals (rw [List.length_drop]; omega)
theorem cutZ_er (lim : Int) (D : List Nat) : (cutZ lim D).2.2 = 0 ∨ (cutZ lim D).2.2 = 240 ∨ (cutZ lim D).2.2 = 241 := by
  by_cases h : lkZ lim D = 1
  · have k := lkZ_1 h
    have ih := cutZ_er lim (D.drop (lnZ D))
    rw [cutZ_yes h]
    exact ih
  · rw [cutZ_no h]
    show erZ _ = 0 ∨ erZ _ = 240 ∨ erZ _ = 241
    unfold erZ
    split
    · simp
    · split <;> simp
termination_by D.length
decreasing_by all_goals (rw [List.length_drop]; omega)
/-- Parcels in memory. -/
def pcC (p : Pcl) : List Value := [.int .i64 p.t, .string p.b]
def pcCells (l : List Pcl) : List Value := l.flatMap pcC
theorem pcC_len (p : Pcl) : (pcC p).length = 2 := rfl
theorem pcCells_length (l : List Pcl) : (pcCells l).length = l.length * 2 := flat_length pcC 2 pcC_len l
theorem pcCells_append (a b : List Pcl) : pcCells (a ++ b) = pcCells a ++ pcCells b := by unfold pcCells; rw [List.flatMap_append]
theorem pcCells_one (l : List Pcl) : ∀ u ∈ pcCells l, u.oneCell' = true := by
  intro u hu
  obtain ⟨a, _, h⟩ := List.mem_flatMap.1 hu
  simp only [pcC, List.mem_cons, List.not_mem_nil, or_false] at h
  rcases h with rfl | rfl <;> rfl
theorem pcCells_get (l : List Pcl) (i : Nat) (t : Pcl) (h : l[i]? = some t) (j : Nat) (hj : j < 2) : (pcCells l)[i * 2 + j]? = (pcC t)[j]? := flat_get pcC 2 pcC_len l i t h j hj
theorem addrP (g o k : Nat) : (⟨g, o, none⟩ : Addr).add k = ⟨g, o + k, none⟩ := by unfold Addr.add; split <;> simp_all
/-- Parcels in memory: their cells lie ahead of block H. -/
structure PRow (w : World) (pp : Option Addr) (H : Nat) (l : List Pcl) : Prop where
  c : ∀ (i : Nat) (t : Pcl), l[i]? = some t → ∃ g o, pp = some ⟨g, o, none⟩ ∧ g < H ∧ w.cell? ⟨g, o + i * 2, none⟩ = some (.int .i64 t.t) ∧ w.cell? ⟨g, o + i * 2 + 1, none⟩ = some (.string t.b)
theorem PRow.same {w w' : World} {pp : Option Addr} {H : Nat} {l : List Pcl} (h : PRow w pp H l) (hb : ∀ k, k < H → w'.heap[k]? = w.heap[k]?) : PRow w' pp H l :=
  ⟨fun i t ht => by
    obtain ⟨g, o, e, hg, h0, h1⟩ := h.c i t ht
    refine ⟨g, o, e, hg, ?_, ?_⟩
    · rw [← h0]; simp only [World.cell?, hb g hg]
    · rw [← h1]; simp only [World.cell?, hb g hg]⟩
/-- .. where only the row's own block must be as it was. -/
theorem PRow.of {w w' : World} {pp : Option Addr} {H : Nat} {l : List Pcl} (h : PRow w pp H l) (hb : ∀ a, pp = some a → a.block < H → w'.heap[a.block]? = w.heap[a.block]?) : PRow w' pp H l :=
  ⟨fun i t ht => by
    obtain ⟨g, o, rfl, hg, h0, h1⟩ := h.c i t ht
    have := hb _ rfl hg
    refine ⟨g, o, rfl, hg, ?_, ?_⟩
    · rw [← h0]; simp only [World.cell?, this]
    · rw [← h1]; simp only [World.cell?, this]⟩
theorem PRow.below {w w' : World} {pp : Option Addr} {H : Nat} {l : List Pcl} (h : PRow w pp H l) (hb : Below H w w') : PRow w' pp H l := h.same fun k hk => hb.block k hk
theorem PRow.mono {w : World} {pp : Option Addr} {H H' : Nat} {l : List Pcl} (h : PRow w pp H l) (hH : H ≤ H') : PRow w pp H' l :=
  ⟨fun i t ht => by obtain ⟨g, o, e, hg, r⟩ := h.c i t ht; exact ⟨g, o, e, by omega, r⟩⟩
theorem PRow.nil (w : World) (pp : Option Addr) (H : Nat) : PRow w pp H [] := ⟨fun i t ht => by cases ht⟩
abbrev POwn (W : World) (base : Nat) (v : Value) (l : List Pcl) : Prop := W.ownsRow base 36 2 v l.length (pcCells l)
theorem POwn.shape {W : World} {base : Nat} {v : Value} {l : List Pcl} (h : POwn W base v l) : ∃ pp cp, v = .slice pp l.length cp ∧ PRow W pp W.heap.size l := by
  rcases h.2 with ⟨rfl, h0⟩ | ⟨g, cap, cur, rfl, hb, hg, hn, hm, hs, hx⟩
  · have : l = [] := List.eq_nil_of_length_eq_zero h0
    subst this
    exact ⟨none, 0, rfl, PRow.nil _ _ _⟩
  · refine ⟨_, _, rfl, ⟨fun i t hi => ⟨g, 0, rfl, (Array.getElem?_eq_some_iff.1 hg).1, ?_, ?_⟩⟩⟩
    · have := World.ownsRow.cells h (g := g) rfl (i * 2 + 0) _ (pcCells_get l i t hi 0 (by decide))
      rw [addrP] at this
      exact this
    · have := World.ownsRow.cells h (g := g) rfl (i * 2 + 1) _ (pcCells_get l i t hi 1 (by decide))
      rw [addrP] at this
      rw [Nat.add_assoc]
      exact this
theorem infoP : ∃ i, Try.prog.info? 36 = some i ∧ i.zero = some (.agg #[.int .i64 0, .string ⟨#[]⟩]) ∧ i.size = 2 ∧ i.bytes = 24 := by
  have h : (Try.prog.info? 36).map (fun i => (i.zero, i.size, i.bytes)) = some (some (.agg #[.int .i64 0, .string ⟨#[]⟩]), 2, 24) := by kernel_rfl
  obtain ⟨i, hi, hz⟩ := Option.map_eq_some_iff.1 h
  simp only [Prod.mk.injEq] at hz
  exact ⟨i, hi, hz.1, hz.2.1, hz.2.2⟩
theorem heap_nw (w : World) (o : Obj) : (w.alloc o).heap[w.heap.size]? = some o := by
  show (w.heap.push o)[w.heap.size]? = _
  rw [Array.getElem?_push, if_pos rfl]
theorem PRow.lit {W : World} {g H : Nat} {p : Pcl} (h : W.heap[g]? = some (.cells #[.int .i64 p.t, .string p.b] 36 (0, 0))) (hg : g < H) : PRow W (some ⟨g, 0, none⟩) H [p] :=
  ⟨fun i t hi => by
    cases i with
    | zero =>
      cases hi
      exact ⟨g, 0, rfl, hg, by simp [World.cell?, h], by simp [World.cell?, h]⟩
    | succ i => cases hi⟩
theorem PRow.news {w : World} {ad : Addr} {H : Nat} {l : List Pcl} (h : PRow w (some ad) H l) : ∀ j u, (pcCells l)[j]? = some u → w.cell? (ad.add j) = some u := by
  intro j u hu
  have hj : j < l.length * 2 := by rw [← pcCells_length]; exact (List.getElem?_eq_some_iff.1 hu).1
  have hi : j / 2 < l.length := by omega
  obtain ⟨g, o, e, _, h0, h1⟩ := h.c (j / 2) l[j / 2] (List.getElem?_eq_getElem hi)
  cases e
  have hg := pcCells_get l (j / 2) l[j / 2] (List.getElem?_eq_getElem hi) (j % 2) (by omega)
  rw [show j / 2 * 2 + j % 2 = j by omega, hu] at hg
  rw [addrP]
  have h4 : j % 2 = 0 ∨ j % 2 = 1 := by omega
  rcases h4 with h4 | h4
  · rw [h4] at hg
    cases Option.some.inj hg
    rw [show o + j = o + j / 2 * 2 by omega]; exact h0
  · rw [h4] at hg
    cases Option.some.inj hg
    rw [show o + j = o + j / 2 * 2 + 1 by omega]; exact h1
/-- One more parcel behind a list of one's own: which block it lies in, what else is as it was. -/
theorem p_ap {W : World} {base : Nat} {v : Value} {al : List Pcl} {p : Pcl} (h : POwn W base v al) (hl : al.length + 1 ≤ 4398046511104) (hb : base ≤ W.heap.size) :
    ∃ v' w', (∀ ty, (Builtin.append_ #[22, 22] ty #[v, .slice (some ⟨W.heap.size, 0, none⟩) 1 1]).run Try.prog (W.alloc (.cells #[.int .i64 p.t, .string p.b] 36)) = .ok v' w') ∧
      (POwn w' base v' (al ++ [p]) ∧ Below base W w' ∧ (∀ k, k < W.heap.size → v.ownBlock ≠ some k → w'.heap[k]? = W.heap[k]?) ∧ ∀ k, v'.ownBlock = some k → v.ownBlock = some k ∨ W.heap.size ≤ k) := by
  obtain ⟨i0, hi, hz, hs, hby⟩ := infoP
  have B := bel1 W (.cells #[.int .i64 p.t, .string p.b] 36)
  have own : POwn (W.alloc (.cells #[.int .i64 p.t, .string p.b] 36)) base v al := ownSame h fun k hk => B.block k (ownLt h hk).2
  have hB : PRow (W.alloc (.cells #[.int .i64 p.t, .string p.b] 36)) (some ⟨W.heap.size, 0, none⟩) (W.heap.size + 1) [p] := PRow.lit (heap_nw W _) (Nat.lt_succ_self _)
  have hr := fun ty => run_append_own_at (P := Try.prog) _ base 22 ty 36 i0 _ 2 24 Try.underlying22 hi hz hs hby rfl (by decide) v al.length (pcCells al) own ⟨W.heap.size, 0, none⟩ 1 1 (pcCells [p]) rfl hB.news (pcCells_one _) (by simp only [maxLen]; omega) (by omega) (by rw [World.size_alloc]; omega)
  obtain ⟨v', w', h1, h2, h3, _, h4⟩ := hr 0
  have hob : ∀ g, v.ownBlock = some g → base ≤ g := fun g hg => (ownLt h hg).1
  have e : ∀ ty, (Builtin.append_ #[22, 22] ty #[v, .slice (some ⟨W.heap.size, 0, none⟩) 1 1]) = (Builtin.append_ #[22, 22] 0 #[v, .slice (some ⟨W.heap.size, 0, none⟩) 1 1]) := fun _ => rfl
  have hz2 : (W.alloc (.cells #[.int .i64 p.t, .string p.b] 36)).heap.size = W.heap.size + 1 := by rw [World.size_alloc]
  have hsz := h3.size
  refine ⟨v', w', fun ty => by rw [e]; exact h1, ?_, ⟨h3.os.trans B.os, h3.tape.trans B.tape, h3.output.trans B.output, by omega, fun k hk => (h3.block k (by omega) (fun e => by have := hob k e.symm; omega)).trans (B.block k (by omega))⟩, fun k hk hne => (h3.block k (by omega) (fun e => hne e.symm)).trans (B.block k hk), ?_⟩
  · unfold POwn
    rw [pcCells_append, List.length_append]
    exact h2
  · intro k hk
    rcases h4 with h4 | h4
    · exact .inl (h4 ▸ hk)
    · rw [h4] at hk
      cases hk
      exact .inr (by omega)
end Go.Proofs.Ytnicdehbedcdpaa

/- Elements and their attributes: al data, in memory. -/
import Derived.Test.YtnicdehbedcdpaaProg
import Derived.WalkKit
import Derived.WalkSpells
import Derived.WalkLawsBesides
import Derived.ProofKit
import Derived.OpenShut
import Derived.Laws.DeepStrings4
import Derived.Deep.RegionWith
import Derived.Deep.QuietTactic
import Derived.BigQuiet
import Derived.Deep.AppendLies
import Derived.Deep.AppendSrc
import Derived.Laws.AppendOwn
namespace Go.Proofs.Ytnicdehbedcdpaa
open Go.ChangeShapes Go.WideShapes Go.ChangeAt Go.RowKit

structure Att where
  nm : ByteArray
  vl : ByteArray
  p : Int
structure El where
  d : Int
  nm : ByteArray
  ats : List Att
  tx : ByteArray
  p : Int
def attC (a : Att) : List Value := [.string a.nm, .string a.vl, .int .i64 a.p]
def attCells (al : List Att) : List Value := al.flatMap attC
theorem attCells_length (al : List Att) : (attCells al).length = al.length * 3 := by
  induction al with
  | nil => rfl
  | cons a r ih =>
    unfold attCells at ih ⊢
    rw [List.flatMap_cons, List.length_append, ih, List.length_cons]
    show 3 + _ = _
    omega
theorem attCells_one (al : List Att) : ∀ u ∈ attCells al, u.oneCell' = true := by
  intro u hu
  obtain ⟨a, _, h⟩ := List.mem_flatMap.1 hu
  simp only [attC, List.mem_cons, List.not_mem_nil, or_false] at h
  rcases h with rfl | rfl | rfl <;> rfl
/-- Attributes in memory: their cells lie ahead of block H. -/
structure ARow (w : World) (pa : Option Addr) (H : Nat) (al : List Att) : Prop where
  c : ∀ (i : Nat) (t : Att), al[i]? = some t → ∃ g o, pa = some ⟨g, o, none⟩ ∧ g < H ∧ w.cell? ⟨g, o + i * 3, none⟩ = some (.string t.nm) ∧ w.cell? ⟨g, o + i * 3 + 1, none⟩ = some (.string t.vl) ∧ w.cell? ⟨g, o + i * 3 + 2, none⟩ = some (.int .i64 t.p)
theorem ARow.below {w w' : World} {pa : Option Addr} {H : Nat} {al : List Att} (h : ARow w pa H al) (hb : Below H w w') : ARow w' pa H al :=
  ⟨fun i t ht => by
    obtain ⟨g, o, e, hg, h0, h1, h2⟩ := h.c i t ht
    exact ⟨g, o, e, hg, (hb.cell (p := ⟨g, _, none⟩) hg).trans h0, (hb.cell (p := ⟨g, _, none⟩) hg).trans h1, (hb.cell (p := ⟨g, _, none⟩) hg).trans h2⟩⟩
theorem ARow.mono {w : World} {pa : Option Addr} {H H' : Nat} {al : List Att} (h : ARow w pa H al) (hH : H ≤ H') : ARow w pa H' al :=
  ⟨fun i t ht => by
    obtain ⟨g, o, e, hg, r⟩ := h.c i t ht
    exact ⟨g, o, e, Nat.lt_of_lt_of_le hg hH, r⟩⟩
/-- Elements in memory, handed in. -/
structure ERow (w : World) (pp : Option Addr) (H : Nat) (es : List El) : Prop where
  c : ∀ (i : Nat) (e : El), es[i]? = some e → ∃ g o pa ca, pp = some ⟨g, o, none⟩ ∧ g < H ∧ w.cell? ⟨g, o + i * 5, none⟩ = some (.int .i64 e.d) ∧ w.cell? ⟨g, o + i * 5 + 1, none⟩ = some (.string e.nm) ∧ w.cell? ⟨g, o + i * 5 + 2, none⟩ = some (.slice pa e.ats.length ca) ∧
    w.cell? ⟨g, o + i * 5 + 3, none⟩ = some (.string e.tx) ∧ w.cell? ⟨g, o + i * 5 + 4, none⟩ = some (.int .i64 e.p) ∧ ARow w pa H e.ats
theorem ERow.below {w w' : World} {pp : Option Addr} {H : Nat} {es : List El} (h : ERow w pp H es) (hb : Below H w w') : ERow w' pp H es :=
  ⟨fun i t ht => by
    obtain ⟨g, o, pa, ca, e, hg, h0, h1, h2, h3, h4, h5⟩ := h.c i t ht
    exact ⟨g, o, pa, ca, e, hg, (hb.cell (p := ⟨g, _, none⟩) hg).trans h0, (hb.cell (p := ⟨g, _, none⟩) hg).trans h1, (hb.cell (p := ⟨g, _, none⟩) hg).trans h2, (hb.cell (p := ⟨g, _, none⟩) hg).trans h3, (hb.cell (p := ⟨g, _, none⟩) hg).trans h4, h5.below hb⟩⟩
theorem ERow.mono {w : World} {pp : Option Addr} {H H' : Nat} {es : List El} (h : ERow w pp H es) (hH : H ≤ H') : ERow w pp H' es :=
  ⟨fun i t ht => by
    obtain ⟨g, o, pa, ca, e, hg, h0, h1, h2, h3, h4, h5⟩ := h.c i t ht
    exact ⟨g, o, pa, ca, e, Nat.lt_of_lt_of_le hg hH, h0, h1, h2, h3, h4, h5.mono hH⟩⟩
theorem beq_ba {a b : ByteArray} (h : a ≠ b) : (a.toList == b.toList) = false :=
  beq_eq_false_iff_ne.2 fun e => h (by
    rw [ByteArray.toList_eq, ByteArray.toList_eq] at e
    exact ByteArray.ext (Array.toList_inj.1 e))
/-- The kids of an element, by the document. -/
def kidsG (d : Int) : List El → Nat → List Nat
  | [], _ => []
  | e :: r, k => if d < e.d then (if e.d = d + 1 then k :: kidsG d r (k + 1) else kidsG d r (k + 1)) else []
def kidsN (es : List El) (i : Int) : List Nat :=
  if 0 ≤ i then (match es[i.toNat]? with
    | some e => kidsG e.d (es.drop (i.toNat + 1)) (i.toNat + 1)
    | none => []) else []
theorem kidsG_length (d : Int) : ∀ (r : List El) (k : Nat), (kidsG d r k).length ≤ r.length
  | [], _ => Nat.le_refl _
  | e :: r, k => by
    have ih := kidsG_length d r (k + 1)
    simp only [kidsG]
    split
    · split
      · rw [List.length_cons, List.length_cons]; omega
      · rw [List.length_cons]; omega
    · exact Nat.zero_le _
theorem kidsG_mem (d : Int) : ∀ (r : List El) (k x : Nat), x ∈ kidsG d r k → k ≤ x ∧ x < k + r.length
  | [], _, _, h => by cases h
  | e :: r, k, x, h => by
    simp only [kidsG] at h
    rw [List.length_cons]
    split at h
    · split at h
      · rcases List.mem_cons.1 h with rfl | h
        · omega
        · have := kidsG_mem d r (k + 1) x h; omega
      · have := kidsG_mem d r (k + 1) x h; omega
    · cases h
theorem kidsN_length (es : List El) (i : Int) : (kidsN es i).length ≤ es.length := by
  unfold kidsN
  split
  · split
    · have := kidsG_length
      rename_i e _
      have := this e.d (es.drop (i.toNat + 1)) (i.toNat + 1)
      rw [List.length_drop] at this
      omega
    · exact Nat.zero_le _
  · exact Nat.zero_le _
theorem kidsN_mem (es : List El) (i : Int) (x : Nat) (h : x ∈ kidsN es i) : x < es.length := by
  unfold kidsN at h
  split at h
  · split at h
    · rename_i e he
      have hl := (List.getElem?_eq_some_iff.1 he).1
      have := kidsG_mem e.d (es.drop (i.toNat + 1)) (i.toNat + 1) x h
      rw [List.length_drop] at this
      omega
    · cases h
  · cases h
/-- A list of numbers of one's own. -/
def cI (n : Nat) : Value := .int .i64 (n : Int)
def NRow (W : World) (base : Nat) (v : Value) (ns : List Nat) : Prop := W.ownsRow base 3 1 v ns.length (ns.map cI)
theorem NRow.below {W W' : World} {base : Nat} {v : Value} {ns : List Nat} (h : NRow W base v ns) (hb : Below W.heap.size W W') : NRow W' base v ns := by
  refine World.ownsRow.kept (row := none) h ⟨hb.os, hb.tape, hb.output, hb.size, fun k hk _ => hb.block k hk⟩ ?_
  cases hv : v.ownBlock <;> simp
theorem NRow.mono {W : World} {base base' : Nat} {v : Value} {ns : List Nat} (h : NRow W base v ns) (hB : base' ≤ base) : NRow W base' v ns := by
  refine ⟨h.1, ?_⟩
  rcases h.2 with h0 | ⟨g, cap, cur, e, hb, r⟩
  · exact .inl h0
  · exact .inr ⟨g, cap, cur, e, by omega, r⟩
theorem NRow.shape {W : World} {base : Nat} {v : Value} {ns : List Nat} (h : NRow W base v ns) : ∃ pp cp, v = .slice pp ns.length cp ∧ ∀ (i n : Nat), ns[i]? = some n → ∃ g, pp = some ⟨g, 0, none⟩ ∧ g < W.heap.size ∧ W.cell? ⟨g, i, none⟩ = some (.int .i64 (n : Int)) := by
  rcases h.2 with ⟨rfl, h0⟩ | ⟨g, cap, cur, rfl, hb, hg, hn, hm, hs, hx⟩
  · refine ⟨none, 0, by rw [h0], fun i n hn => ?_⟩
    have : ns = [] := List.eq_nil_of_length_eq_zero h0
    subst this
    cases hn
  · refine ⟨_, _, rfl, fun i n hi => ⟨g, rfl, (Array.getElem?_eq_some_iff.1 hg).1, ?_⟩⟩
    have hi2 : (ns.map cI)[i]? = some (cI n) := by rw [List.getElem?_map, hi]; rfl
    have := World.ownsRow.cells h (g := g) rfl i _ hi2
    have hadd : (⟨g, 0, none⟩ : Addr).add i = ⟨g, i, none⟩ := by unfold Addr.add; split <;> simp_all
    rwa [hadd] at this
theorem infoI : ∃ i, Try.prog.info? 3 = some i ∧ i.zero = some (.int .i64 0) ∧ i.size = 1 ∧ i.bytes = 8 := by
  have h : (Try.prog.info? 3).map (fun i => (i.zero, i.size, i.bytes)) = some (some (.int .i64 0), 1, 8) := by kernel_rfl
  obtain ⟨i, hi, hz⟩ := Option.map_eq_some_iff.1 h
  simp only [Prod.mk.injEq] at hz
  exact ⟨i, hi, hz.1, hz.2.1, hz.2.2⟩
/-- Elements in memory; each list of attributes has the room that its slice tells. -/
structure EC (w : World) (pp : Option Addr) (H : Nat) (es : List El) : Prop where
  c : ∀ (i : Nat) (e : El), es[i]? = some e → ∃ g o pa ca, pp = some ⟨g, o, none⟩ ∧ g < H ∧ w.cell? ⟨g, o + i * 5, none⟩ = some (.int .i64 e.d) ∧ w.cell? ⟨g, o + i * 5 + 1, none⟩ = some (.string e.nm) ∧ w.cell? ⟨g, o + i * 5 + 2, none⟩ = some (.slice pa e.ats.length ca) ∧
    w.cell? ⟨g, o + i * 5 + 3, none⟩ = some (.string e.tx) ∧ w.cell? ⟨g, o + i * 5 + 4, none⟩ = some (.int .i64 e.p) ∧ ARow w pa H e.ats ∧ e.ats.length ≤ ca
theorem EC.erow {w : World} {pp : Option Addr} {H : Nat} {es : List El} (h : EC w pp H es) : ERow w pp H es :=
  ⟨fun i t ht => by
    obtain ⟨g, o, pa, ca, e, hg, h0, h1, h2, h3, h4, h5, _⟩ := h.c i t ht
    exact ⟨g, o, pa, ca, e, hg, h0, h1, h2, h3, h4, h5⟩⟩
theorem EC.below {w w' : World} {pp : Option Addr} {H : Nat} {es : List El} (h : EC w pp H es) (hb : Below H w w') : EC w' pp H es :=
  ⟨fun i t ht => by
    obtain ⟨g, o, pa, ca, e, hg, h0, h1, h2, h3, h4, h5, h6⟩ := h.c i t ht
    exact ⟨g, o, pa, ca, e, hg, (hb.cell (p := ⟨g, _, none⟩) hg).trans h0, (hb.cell (p := ⟨g, _, none⟩) hg).trans h1, (hb.cell (p := ⟨g, _, none⟩) hg).trans h2, (hb.cell (p := ⟨g, _, none⟩) hg).trans h3, (hb.cell (p := ⟨g, _, none⟩) hg).trans h4, h5.below hb, h6⟩⟩
theorem EC.mono {w : World} {pp : Option Addr} {H H' : Nat} {es : List El} (h : EC w pp H es) (hH : H ≤ H') : EC w pp H' es :=
  ⟨fun i t ht => by
    obtain ⟨g, o, pa, ca, e, hg, h0, h1, h2, h3, h4, h5, h6⟩ := h.c i t ht
    exact ⟨g, o, pa, ca, e, Nat.lt_of_lt_of_le hg hH, h0, h1, h2, h3, h4, h5.mono hH, h6⟩⟩
end Go.Proofs.Ytnicdehbedcdpaa

/- The book: one more; bytes handed in; own bytes. -/
import Derived.Test.YtnicdehbedcdpaaFnA
import Derived.Test.YtnicdehbedcdpaaFmW
namespace Go.Proofs.Ytnicdehbedcdpaa
open Go.ChangeShapes Go.WideShapes Go.ChangeAt Go.RowKit

theorem infoK : ∃ i, Try.prog.info? 43 = some i ∧ i.zero = some (.agg #[.slice none 0 0, .slice none 0 0, .int .i64 0]) ∧ i.size = 3 ∧ i.bytes = 56 := by
  have h : (Try.prog.info? 43).map (fun i => (i.zero, i.size, i.bytes)) = some (some (.agg #[.slice none 0 0, .slice none 0 0, .int .i64 0]), 3, 56) := by kernel_rfl
  obtain ⟨i, hi, hz⟩ := Option.map_eq_some_iff.1 h
  simp only [Prod.mk.injEq] at hz
  exact ⟨i, hi, hz.1, hz.2.1, hz.2.2⟩
theorem bk_ap {W : World} {base : Nat} {v : Value} {es : List Ent} {e : Ent} (h : W.ownsRow base 43 3 v es.length (entF es 0)) (hl : es.length + 1 ≤ 1000000) (hb : base ≤ W.heap.size) :
    ∃ v' w', (∀ ty, (Builtin.append_ #[54, 54] ty #[v, .slice (some ⟨W.heap.size, 0, none⟩) 1 1]).run Try.prog (W.alloc (.cells (entV e es.length).toArray 43)) = .ok v' w') ∧
      (w'.ownsRow base 43 3 v' (es.length + 1) (entF (es ++ [e]) 0) ∧ Below base W w' ∧ (∀ k, k < W.heap.size → v.ownBlock ≠ some k → w'.heap[k]? = W.heap[k]?) ∧ ∀ k, v'.ownBlock = some k → v.ownBlock = some k ∨ W.heap.size ≤ k) := by
  obtain ⟨i0, hi, hz, hs, hby⟩ := infoK
  have B := bel1 W (.cells (entV e es.length).toArray 43)
  have own : (W.alloc (.cells (entV e es.length).toArray 43)).ownsRow base 43 3 v es.length (entF es 0) := ownSame h fun k hk => B.block k (ownLt h hk).2
  have hn := heap_nw W (.cells (entV e es.length).toArray 43)
  have hr := fun ty => run_append_own_at (P := Try.prog) _ base 54 ty 43 i0 _ 3 56 Try.underlying54 hi hz hs hby rfl (by decide) v es.length (entF es 0) own ⟨W.heap.size, 0, none⟩ 1 1 (entV e es.length) rfl (World.news_of_block hn) (entF_one [e] es.length) (by simp only [maxLen]; omega) (by omega) (by rw [World.size_alloc]; omega)
  obtain ⟨v', w', h1, h2, h3, _, h4⟩ := hr 0
  have hob : ∀ g, v.ownBlock = some g → base ≤ g := fun g hg => (ownLt h hg).1
  have eq : ∀ ty, (Builtin.append_ #[54, 54] ty #[v, .slice (some ⟨W.heap.size, 0, none⟩) 1 1]) = (Builtin.append_ #[54, 54] 0 #[v, .slice (some ⟨W.heap.size, 0, none⟩) 1 1]) := fun _ => rfl
  have hz2 : (W.alloc (.cells (entV e es.length).toArray 43)).heap.size = W.heap.size + 1 := by rw [World.size_alloc]
  have hsz := h3.size
  refine ⟨v', w', fun ty => by rw [eq]; exact h1, ?_, ⟨h3.os.trans B.os, h3.tape.trans B.tape, h3.output.trans B.output, by omega, fun k hk => (h3.block k (by omega) (fun e => by have := hob k e.symm; omega)).trans (B.block k (by omega))⟩, fun k hk hne => (h3.block k (by omega) (fun e => hne e.symm)).trans (B.block k hk), ?_⟩
  · rw [entF_append, Nat.zero_add]
    exact h2
  · intro k hk
    rcases h4 with h4 | h4
    · exact .inl (h4 ▸ hk)
    · rw [h4] at hk
      cases hk
      exact .inr (by omega)
/-- Bytes handed in. -/
structure BRow (w : World) (pp : Option Addr) (H : Nat) (L : List Nat) : Prop where
  c : ∀ (j x : Nat), L[j]? = some x → ∃ g o, pp = some ⟨g, o, none⟩ ∧ g < H ∧ w.cell? ⟨g, o + j, none⟩ = some (.int .u8 (x : Int))
  lt : ∀ b ∈ L, b < 256
  nil : pp = none → L = []
  sp : ∀ a, pp = some a → L ≠ [] → a.spot = none
theorem BRow.below {w w' : World} {pp : Option Addr} {H : Nat} {L : List Nat} (h : BRow w pp H L) (hb : Below H w w') : BRow w' pp H L :=
  ⟨fun j x hx => by
    obtain ⟨g, o, e, hg, hc⟩ := h.c j x hx
    exact ⟨g, o, e, hg, (hb.cell (p := ⟨g, o + j, none⟩) hg).trans hc⟩, h.lt, h.nil, h.sp⟩
theorem BRow.src {w : World} {pp : Option Addr} {H : Nat} {L : List Nat} (h : BRow w pp H L) (c : Nat) : Src Try.prog 1 33 (.slice pp L.length c) L.length (L.map cU) w := by
  cases pp with
  | none =>
    have := h.nil rfl
    subst this
    exact Src.ofNil (P := Try.prog) (size := 1) w Try.underlying33 c
  | some a =>
    refine Src.ofSlice w Try.underlying33 a L.length c _ (by rw [List.length_map, Nat.mul_one]) (fun j u hu => ?_) (cU_one _)
    rw [List.getElem?_map] at hu
    obtain ⟨x, hx, rfl⟩ := Option.map_eq_some_iff.1 hu
    obtain ⟨g, o, e, _, hc⟩ := h.c j x hx
    cases e
    rw [addrP]
    exact hc
theorem BRow.conv {w : World} {pp : Option Addr} {H : Nat} {L : List Nat} (h : BRow w pp H L) (c : Nat) : (convert 33 9 (.slice pp L.length c)).run Try.prog w = .ok (.string (sOf L)) w := by
  cases pp with
  | none =>
    have := h.nil rfl
    subst this
    exact run_convert_bytes_nil w 33 5 Try.underlying33 Try.underlying5 0 c 9 Try.underlying9
  | some a =>
    by_cases hL : L = []
    · subst hL
      exact run_convert_bytes_back w 33 9 5 a c [] Try.underlying33 Try.underlying5 Try.underlying9 (fun j hj => by cases hj)
    obtain ⟨g, o, sp⟩ := a
    have hsp : sp = none := h.sp _ rfl hL
    subst hsp
    refine conv_at w g o L.length c L rfl fun k x hx => ?_
    obtain ⟨g2, o2, e, _, hc⟩ := h.c k x hx
    cases e
    exact hc
/-- Bytes of one's own, the first of them. -/
theorem Buf.part {w : World} {B g n cap : Nat} {L M : List Nat} (h : Buf w B (.slice (some ⟨g, 0, none⟩) n cap) (L ++ M)) (hL : ∀ b ∈ L, b < 256) : BRow w (some ⟨g, 0, none⟩) w.heap.size L := by
  refine ⟨fun j x hx => ⟨g, 0, rfl, (ownLt h (k := g) rfl).2, ?_⟩, hL, (fun e => by cases e), (fun a e _ => by cases e; rfl)⟩
  have hx2 : (L ++ M)[j]? = some x := by rw [List.getElem?_append_left (List.getElem?_eq_some_iff.1 hx).1]; exact hx
  have := World.ownsRow.cells h (g := g) rfl j (cU x) (by rw [List.getElem?_map, hx2]; rfl)
  rw [addrP] at this
  exact this
/-- An operation handed in. -/
structure OpT where
  k : Int
  a : Int
  n : Int
  b : List Nat
structure OpRow (w : World) (pp : Option Addr) (H : Nat) (l : List OpT) : Prop where
  c : ∀ (i : Nat) (t : OpT), l[i]? = some t → ∃ g o pb cb, pp = some ⟨g, o, none⟩ ∧ g < H ∧ w.cell? ⟨g, o + i * 4, none⟩ = some (.int .i64 t.k) ∧ w.cell? ⟨g, o + i * 4 + 1, none⟩ = some (.int .i64 t.a) ∧ w.cell? ⟨g, o + i * 4 + 2, none⟩ = some (.int .i64 t.n) ∧ w.cell? ⟨g, o + i * 4 + 3, none⟩ = some (.slice pb t.b.length cb) ∧ t.b.length ≤ cb ∧ BRow w pb H t.b
theorem i64_and1 (a : Int) : bits .and .i64 a 1 = 0 ∨ bits .and .i64 a 1 = 1 := by
  have h : (BitVec.ofInt 64 a &&& BitVec.ofInt 64 1).toNat < 2 := by
    rw [BitVec.toNat_and]
    have e1 : (BitVec.ofInt 64 1).toNat = 1 := by decide
    rw [e1]
    have := Nat.and_le_right (n := (BitVec.ofInt 64 a).toNat) (m := 1)
    omega
  have e : bits .and .i64 a 1 = IntKind.i64.wrap ((BitVec.ofInt 64 a &&& BitVec.ofInt 64 1).toNat : Int) := rfl
  rw [e, IntKind.wrap_i64]
  omega
end Go.Proofs.Ytnicdehbedcdpaa

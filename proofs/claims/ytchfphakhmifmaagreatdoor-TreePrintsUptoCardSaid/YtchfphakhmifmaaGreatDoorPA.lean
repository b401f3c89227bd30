/- TMem, TBuf, TKid, TPf, TCop, TCop2, TSam, TUnt, TSe, TSf, TSg. -/
import Derived.Test.YtchfphakhmifmaaGreatDoorProg
import Derived.WalkKit
import Derived.WalkSpells
import Derived.WalkLawsBesides
import Derived.ProofKit
import Derived.OpenShut
import Derived.Laws.DeepStrings4
import Derived.Deep.RegionWith
import Derived.Deep.QuietTactic
import Derived.BigQuiet
import Derived.Deep.AppendLies
import Derived.Deep.AppendSrc
import Derived.Laws.AppendOwn
import Derived.Test.YtchfphakhmifmaaGreatDoorMA
import Derived.Test.YtchfphakhmifmaaGreatDoorXRd
namespace Go.Proofs.YtchfphakhmifmaaGreatDoor
open Go.ChangeShapes Go.WideShapes Go.ChangeAt Go.RowKit

structure Att where
  nm : ByteArray
  vl : ByteArray
  p : Int
structure El where
  d : Int
  nm : ByteArray
  ats : List Att
  tx : ByteArray
  p : Int
def attC (a : Att) : List Value := [.string a.nm, .string a.vl, .int .i64 a.p]
def attCells (al : List Att) : List Value := al.flatMap attC
theorem attCells_length (al : List Att) : (attCells al).length = al.length * 3 := by
  induction al with
  | nil => rfl
  | cons a r ih =>
    unfold attCells at ih ⊢
    rw [List.flatMap_cons, List.length_append, ih, List.length_cons]
    show 3 + _ = _
    omega
theorem attCells_one (al : List Att) : ∀ u ∈ attCells al, u.oneCell' = true := by
  intro u hu
  obtain ⟨a, _, h⟩ := List.mem_flatMap.1 hu
  simp only [attC, List.mem_cons, List.not_mem_nil, or_false] at h
  rcases h with rfl | rfl | rfl <;> rfl
/-- Attributes in memory: their cells lie ahead of block H. -/
structure ARow (w : World) (pa : Option Addr) (H : Nat) (al : List Att) : Prop where
  c : ∀ (i : Nat) (t : Att), al[i]? = some t → ∃ g o, pa = some ⟨g, o, none⟩ ∧ g < H ∧ w.cell? ⟨g, o + i * 3, none⟩ = some (.string t.nm) ∧ w.cell? ⟨g, o + i * 3 + 1, none⟩ = some (.string t.vl) ∧ w.cell? ⟨g, o + i * 3 + 2, none⟩ = some (.int .i64 t.p)
theorem ARow.below {w w' : World} {pa : Option Addr} {H : Nat} {al : List Att} (h : ARow w pa H al) (hb : Below H w w') : ARow w' pa H al :=
  ⟨fun i t ht => by
    obtain ⟨g, o, e, hg, h0, h1, h2⟩ := h.c i t ht
    exact ⟨g, o, e, hg, (hb.cell (p := ⟨g, _, none⟩) hg).trans h0, (hb.cell (p := ⟨g, _, none⟩) hg).trans h1, (hb.cell (p := ⟨g, _, none⟩) hg).trans h2⟩⟩
theorem ARow.mono {w : World} {pa : Option Addr} {H H' : Nat} {al : List Att} (h : ARow w pa H al) (hH : H ≤ H') : ARow w pa H' al :=
  ⟨fun i t ht => by
    obtain ⟨g, o, e, hg, r⟩ := h.c i t ht
    exact ⟨g, o, e, Nat.lt_of_lt_of_le hg hH, r⟩⟩
/-- Elements in memory, handed in. -/
structure ERow (w : World) (pp : Option Addr) (H : Nat) (es : List El) : Prop where
  c : ∀ (i : Nat) (e : El), es[i]? = some e → ∃ g o pa ca, pp = some ⟨g, o, none⟩ ∧ g < H ∧ w.cell? ⟨g, o + i * 5, none⟩ = some (.int .i64 e.d) ∧ w.cell? ⟨g, o + i * 5 + 1, none⟩ = some (.string e.nm) ∧ w.cell? ⟨g, o + i * 5 + 2, none⟩ = some (.slice pa e.ats.length ca) ∧
    w.cell? ⟨g, o + i * 5 + 3, none⟩ = some (.string e.tx) ∧ w.cell? ⟨g, o + i * 5 + 4, none⟩ = some (.int .i64 e.p) ∧ ARow w pa H e.ats
theorem ERow.below {w w' : World} {pp : Option Addr} {H : Nat} {es : List El} (h : ERow w pp H es) (hb : Below H w w') : ERow w' pp H es :=
  ⟨fun i t ht => by
    obtain ⟨g, o, pa, ca, e, hg, h0, h1, h2, h3, h4, h5⟩ := h.c i t ht
    exact ⟨g, o, pa, ca, e, hg, (hb.cell (p := ⟨g, _, none⟩) hg).trans h0, (hb.cell (p := ⟨g, _, none⟩) hg).trans h1, (hb.cell (p := ⟨g, _, none⟩) hg).trans h2, (hb.cell (p := ⟨g, _, none⟩) hg).trans h3, (hb.cell (p := ⟨g, _, none⟩) hg).trans h4, h5.below hb⟩⟩
theorem ERow.mono {w : World} {pp : Option Addr} {H H' : Nat} {es : List El} (h : ERow w pp H es) (hH : H ≤ H') : ERow w pp H' es :=
  ⟨fun i t ht => by
    obtain ⟨g, o, pa, ca, e, hg, h0, h1, h2, h3, h4, h5⟩ := h.c i t ht
    exact ⟨g, o, pa, ca, e, Nat.lt_of_lt_of_le hg hH, h0, h1, h2, h3, h4, h5.mono hH⟩⟩
theorem beq_ba {a b : ByteArray} (h : a ≠ b) : (a.toList == b.toList) = false :=
  beq_eq_false_iff_ne.2 fun e => h (by
    rw [ByteArray.toList_eq, ByteArray.toList_eq] at e
    exact ByteArray.ext (Array.toList_inj.1 e))
/-- The kids of an element, by the document. -/
def kidsG (d : Int) : List El → Nat → List Nat
  | [], _ => []
  | e :: r, k => if d < e.d then (if e.d = d + 1 then k :: kidsG d r (k + 1) else kidsG d r (k + 1)) else []
def kidsN (es : List El) (i : Int) : List Nat :=
  if 0 ≤ i then (match es[i.toNat]? with
    | some e => kidsG e.d (es.drop (i.toNat + 1)) (i.toNat + 1)
    | none => []) else []
theorem kidsG_length (d : Int) : ∀ (r : List El) (k : Nat), (kidsG d r k).length ≤ r.length
  | [], _ => Nat.le_refl _
  | e :: r, k => by
    have ih := kidsG_length d r (k + 1)
    simp only [kidsG]
    split
    · split
      · rw [List.length_cons, List.length_cons]; omega
      · rw [List.length_cons]; omega
    · exact Nat.zero_le _
theorem kidsG_mem (d : Int) : ∀ (r : List El) (k x : Nat), x ∈ kidsG d r k → k ≤ x ∧ x < k + r.length
  | [], _, _, h => by cases h
  | e :: r, k, x, h => by
    simp only [kidsG] at h
    rw [List.length_cons]
    split at h
    · split at h
      · rcases List.mem_cons.1 h with rfl | h
        · omega
        · have := kidsG_mem d r (k + 1) x h; omega
      · have := kidsG_mem d r (k + 1) x h; omega
    · cases h
theorem kidsN_length (es : List El) (i : Int) : (kidsN es i).length ≤ es.length := by
  unfold kidsN
  split
  · split
    · have := kidsG_length
      rename_i e _
      have := this e.d (es.drop (i.toNat + 1)) (i.toNat + 1)
      rw [List.length_drop] at this
      omega
    · exact Nat.zero_le _
  · exact Nat.zero_le _
theorem kidsN_mem (es : List El) (i : Int) (x : Nat) (h : x ∈ kidsN es i) : x < es.length := by
  unfold kidsN at h
  split at h
  · split at h
    · rename_i e he
      have hl := (List.getElem?_eq_some_iff.1 he).1
      have := kidsG_mem e.d (es.drop (i.toNat + 1)) (i.toNat + 1) x h
      rw [List.length_drop] at this
      omega
    · cases h
  · cases h
/-- A list of numbers of one's own. -/
def cI (n : Nat) : Value := .int .i64 (n : Int)
def NRow (W : World) (base : Nat) (v : Value) (ns : List Nat) : Prop := W.ownsRow base 3 1 v ns.length (ns.map cI)
theorem NRow.below {W W' : World} {base : Nat} {v : Value} {ns : List Nat} (h : NRow W base v ns) (hb : Below W.heap.size W W') : NRow W' base v ns := by
  refine World.ownsRow.kept (row := none) h ⟨hb.os, hb.tape, hb.output, hb.size, fun k hk _ => hb.block k hk⟩ ?_
  cases hv : v.ownBlock <;> simp
theorem NRow.mono {W : World} {base base' : Nat} {v : Value} {ns : List Nat} (h : NRow W base v ns) (hB : base' ≤ base) : NRow W base' v ns := by
  refine ⟨h.1, ?_⟩
  rcases h.2 with h0 | ⟨g, cap, cur, e, hb, r⟩
  · exact .inl h0
  · exact .inr ⟨g, cap, cur, e, by omega, r⟩
theorem NRow.shape {W : World} {base : Nat} {v : Value} {ns : List Nat} (h : NRow W base v ns) : ∃ pp cp, v = .slice pp ns.length cp ∧ ∀ (i n : Nat), ns[i]? = some n → ∃ g, pp = some ⟨g, 0, none⟩ ∧ g < W.heap.size ∧ W.cell? ⟨g, i, none⟩ = some (.int .i64 (n : Int)) := by
  rcases h.2 with ⟨rfl, h0⟩ | ⟨g, cap, cur, rfl, hb, hg, hn, hm, hs, hx⟩
  · refine ⟨none, 0, by rw [h0], fun i n hn => ?_⟩
    have : ns = [] := List.eq_nil_of_length_eq_zero h0
    subst this
    cases hn
  · refine ⟨_, _, rfl, fun i n hi => ⟨g, rfl, (Array.getElem?_eq_some_iff.1 hg).1, ?_⟩⟩
    have hi2 : (ns.map cI)[i]? = some (cI n) := by rw [List.getElem?_map, hi]; rfl
    have := World.ownsRow.cells h (g := g) rfl i _ hi2
    have hadd : (⟨g, 0, none⟩ : Addr).add i = ⟨g, i, none⟩ := by unfold Addr.add; split <;> simp_all
    rwa [hadd] at this
theorem infoI : ∃ i, Tryz.prog.info? 3 = some i ∧ i.zero = some (.int .i64 0) ∧ i.size = 1 ∧ i.bytes = 8 := by
  have h : (Tryz.prog.info? 3).map (fun i => (i.zero, i.size, i.bytes)) = some (some (.int .i64 0), 1, 8) := by kernel_rfl
  obtain ⟨i, hi, hz⟩ := Option.map_eq_some_iff.1 h
  simp only [Prod.mk.injEq] at hz
  exact ⟨i, hi, hz.1, hz.2.1, hz.2.2⟩
end Go.Proofs.YtchfphakhmifmaaGreatDoor
namespace Go.Proofs.YtchfphakhmifmaaGreatDoor
open Go.ChangeShapes Go.WideShapes Go.ChangeAt Go.RowKit

theorem tSetCells_other {b k : Nat} (h : k = b → False) : ∀ (vs : List Value) (o : Nat) (w : World), (w.setCells b o vs).heap[k]? = w.heap[k]?
  | [], _, _ => rfl
  | _ :: r, o, w => (tSetCells_other h r (o + 1) _).trans (Below.heap_setCell w _ _ _ (fun e => h e))
theorem tbufAppend {w : World} {B : Nat} {v : Value} {L : List Nat} (h : Buf w B v L) {tx : TypeId} {x : Value} {M : List Nat} (S : Src Tryz.prog 1 tx x M.length (M.map cU) w) (hl : L.length + M.length ≤ 140737488355328) (hB : B ≤ w.heap.size) :
    ∃ v' w', (∀ ty, (Builtin.append_ #[52, tx] ty #[v, x]).run Tryz.prog w = .ok v' w') ∧ (Buf w' B v' (L ++ M) ∧ Below B w w' ∧ (∀ k, k < w.heap.size → v.ownBlock ≠ some k → w'.heap[k]? = w.heap[k]?) ∧ ∀ k, v'.ownBlock = some k → v.ownBlock = some k ∨ w.heap.size ≤ k) := by
  obtain ⟨i, hi, hz, hsz, hby⟩ := info5
  have S' : Src Tryz.prog i.size tx x M.length (M.map cU) w := by rw [hsz]; exact S
  have hlen : (L ++ M).map cU = L.map cU ++ M.map cU := List.map_append
  -- the way that grows
  have grow : ∀ (base : Option Addr) (sCap : Nat), v = .slice base L.length sCap → sCap < L.length + M.length →
      (Builtin.firstCells i.size L.length (.slice base L.length sCap)).run Tryz.prog w.drew = .ok (L.map cU).toArray w.drew →
      ∃ v' w', (∀ ty, (Builtin.append_ #[52, tx] ty #[v, x]).run Tryz.prog w = .ok v' w') ∧ (Buf w' B v' (L ++ M) ∧ Below B w w' ∧ (∀ k, k < w.heap.size → v.ownBlock ≠ some k → w'.heap[k]? = w.heap[k]?) ∧ ∀ k, v'.ownBlock = some k → v.ownBlock = some k ∨ w.heap.size ≤ k) := by
    rintro base sCap rfl hlt hold
    have hfit : Builtin.nextslicecap (L.length + M.length) sCap * i.bytes ≤ 281474976710656 := by
      have := growslice_fits (bytes := 1) hlt (by omega)
      rw [hby]; exact this
    have ge := grownCap_ge w (L.length + M.length) sCap 5
    have le := grownCap_le_maxLen w (L.length + M.length) sCap 5 (by unfold maxLen; omega)
    refine ⟨_, _, fun ty => run_append_grow_src w 52 tx ty 5 i (.int .u8 0) Tryz.underlying52 hi hz base L.length sCap _ hold x M.length _ S' hlt (by omega) hfit, ⟨?_, ?_⟩, (Below.refl _ _).drew.alloc hB _, fun k hk _ => Below.heap_alloc w.drew _ k hk, fun k hk => by cases hk; exact .inr (Nat.le_refl _)⟩
    · rw [List.length_map, List.length_append, Nat.mul_one]
    · refine .inr ⟨w.heap.size, _, _, by rw [List.length_append], hB, heap_alloc_new w.drew _, by rw [List.length_append]; exact ge, le, ?_, ?_⟩
      · simp only [Array.size_append, List.size_toArray, size_zeroCells]
        rw [List.length_append, List.length_map, List.length_map, show (Value.int .u8 0).cells.size = 1 from rfl]
        omega
      · rw [Nat.mul_one, Array.toList_append, List.take_append_of_le_length (by simp), hlen, List.take_of_length_le (by simp)]
  rcases h.2 with ⟨rfl, h0⟩ | ⟨g, cap, cur, rfl, hb, hg, hn, hm, hs, ht⟩
  · obtain rfl : L = [] := List.length_eq_zero_iff.1 h0
    by_cases hM : M.length = 0
    · obtain rfl : M = [] := List.length_eq_zero_iff.1 hM
      refine ⟨.slice none 0 0, w, fun ty => ?_, h, Below.refl _ _, fun _ _ _ => rfl, fun k hk => .inl hk⟩
      have hln : ∀ w' : World, (Builtin.lenOf x).run Tryz.prog w' = .ok 0 w' := S'.len
      have hcl : (Builtin.firstCells i.size 0 x).run Tryz.prog w = .ok #[] w := S'.cells
      rcases S'.kind with ⟨e', hk⟩ | hk <;>
        simp [Builtin.append_, run_underlying Tryz.underlying52, run_underlying hk, sizeOf, typeInfo, hi, hln, hcl]
    · exact grow none 0 rfl (by simp; omega) (by simpa using run_firstCells_none w.drew i.size 0 0 0)
  · by_cases hroom : L.length + M.length ≤ cap
    · have hcs : cur.size = cap := by rw [hs, Nat.mul_one]
      refine ⟨_, _, fun ty => run_append_room_src w 52 tx ty 5 i Tryz.underlying52 hi g 0 L.length cap x M.length _ S' hroom (fun j hj => ?_) (fun j hj => ?_), ⟨?_, ?_⟩, ?_, fun k hk hne => tSetCells_other (fun e => hne (by rw [e]; rfl)) _ _ _, fun k hk => .inl hk⟩
      · rw [hsz, Nat.zero_add, Nat.mul_one, cell_of_row w g _ cur _ (0, 0) hg]
        rw [List.length_map] at hj
        have : L.length + j < cur.size := by omega
        simp [this]
      · unfold World.frozen?
        simp [hg]
      · rw [List.length_map, List.length_append, Nat.mul_one]
      · rw [hsz, Nat.zero_add, Nat.mul_one]
        have R : w.rowIs g 5 cap (fun j => cur.toList.getD j (.int .u8 0)) := ⟨cur, hg, hcs, fun j hj => by
          have : j < cur.size := by omega
          simp [List.getD, this]⟩
        obtain ⟨cur', h1, h2, h3⟩ := rowIs_setCells (M.map cU) L.length _ _ R
        refine .inr ⟨g, cap, cur', by rw [List.length_append], hb, h1, by rw [List.length_append]; exact hroom, hm, by rw [h2, Nat.mul_one], ?_⟩
        rw [List.length_append, Nat.mul_one, hlen]
        rw [Nat.mul_one] at ht
        apply List.ext_getElem?
        intro j
        by_cases hj : j < L.length + M.length
        · have hj2 : j < cap := by omega
          have hj3 := h3 j hj2
          rw [List.getElem?_take_of_lt hj, Array.getElem?_toList, hj3]
          dsimp only
          by_cases hjl : j < L.length
          · rw [if_neg (by omega), List.getElem?_append_left (by simpa using hjl), ← ht, List.getElem?_take_of_lt hjl]
            have : j < cur.size := by omega
            simp [List.getD, this]
          · rw [if_pos ⟨by omega, by simpa using hj⟩, List.getElem?_append_right (by simpa using hjl), List.length_map]
            have : j - L.length < (M.map cU).length := by simp; omega
            simp [List.getD, show j - L.length < M.length by omega]
        · rw [List.getElem?_eq_none (by simp; omega), List.getElem?_eq_none (by simp; omega)]
      · exact below_setCells hb _ _ _ (Below.refl _ _)
    · refine grow (some ⟨g, 0, none⟩) cap rfl (by omega) ?_
      refine run_firstCells_some w.drew i.size L.length ⟨g, 0, none⟩ L.length cap _ (by rw [List.length_map, hsz, Nat.mul_one]) (fun j u hu => ?_)
      have := World.ownsRow.cells h (g := g) rfl j u hu
      simpa using this
theorem tbufStr {w : World} {B : Nat} {v : Value} {L : List Nat} (h : Buf w B v L) (t : ByteArray) (hl : L.length + t.size ≤ 140737488355328) (hB : B ≤ w.heap.size) :
    ∃ v' w', (∀ ty, (Builtin.append_ #[52, 9] ty #[v, .string t]).run Tryz.prog w = .ok v' w') ∧ (Buf w' B v' (L ++ lOf t) ∧ Below B w w' ∧ (∀ k, k < w.heap.size → v.ownBlock ≠ some k → w'.heap[k]? = w.heap[k]?) ∧ ∀ k, v'.ownBlock = some k → v.ownBlock = some k ∨ w.heap.size ≤ k) := by
  have S := Src.ofString (P := Tryz.prog) (tx := 9) w Tryz.underlying9 t
  rw [byteCells_lOf, ← lOf_length] at S
  exact tbufAppend h S (by rw [lOf_length]; exact hl) hB
end Go.Proofs.YtchfphakhmifmaaGreatDoor
namespace Go.Proofs.YtchfphakhmifmaaGreatDoor
open Go.ChangeShapes Go.WideShapes Go.ChangeAt Go.RowKit

theorem tdr {B n : Nat} {a w : World} (h : Below B a w) : Below B a (w.drewN n) := by
  exact ⟨h.os, h.tape, h.output, h.size, h.block⟩
theorem thn (w : World) (o : Obj) : (w.alloc o).heap[w.heap.size]? = some o := by
  show (w.heap.push o)[w.heap.size]? = some o
  simp
theorem kidsN_at {es : List El} {k : Nat} {e : El} (he : es[k]? = some e) : kidsN es (k : Int) = kidsG e.d (es.drop (k + 1)) (k + 1) := by
  unfold kidsN
  rw [if_pos (by omega), Int.toNat_natCast, he]
theorem drop_at {α : Type} {l : List α} {n : Nat} {x : α} (h : l[n]? = some x) : l.drop n = x :: l.drop (n + 1) := by
  obtain ⟨hl, e⟩ := List.getElem?_eq_some_iff.1 h
  rw [List.drop_eq_getElem_cons hl, e]
theorem NRow.snoc {W' : World} {base : Nat} {v' : Value} {ns : List Nat} {n : Nat} (h : W'.ownsRow base 3 1 v' (ns.length + 1) (ns.map cI ++ [.int .i64 (n : Int)])) : NRow W' base v' (ns ++ [n]) := by
  unfold NRow
  rw [List.length_append, List.map_append]
  exact h
theorem own_ge {w : World} {base : Nat} {e : TypeId} {size : Nat} {v : Value} {n : Nat} {xs : List Value} (h : w.ownsRow base e size v n xs) : ∀ k, v.ownBlock = some k → base ≤ k := fun k hk => (h.lt k hk).1
set_option maxRecDepth 100000 in
set_option maxHeartbeats 2000000 in
theorem refKids_any (pp : Option Addr) (cp : Nat) (es : List El) (i : Int) (w : World) (hr : ERow w pp w.heap.size es) (hl : es.length * 72 ≤ 140737488351232) (hd : ∀ e ∈ es, -9223372036854775808 ≤ e.d ∧ e.d ≤ 9223372036854775807) (hi : i ≤ 9223372036854775807) :
    Calls Tryz.prog 47 #[.slice pp es.length cp, .int .i64 i] w fun e w' => ∃ v, e = .returned v ∧ NRow w' w.heap.size v (kidsN es i) ∧ Below w.heap.size w w' := by
  by_cases h0 : 0 ≤ i ∧ i < es.length
  · obtain ⟨k, rfl⟩ : ∃ k : Nat, i = k := ⟨i.toNat, by omega⟩
    have hk : k < es.length := by omega
    obtain ⟨x, hx⟩ : ∃ x, es[k]? = some x := ⟨es[k], List.getElem?_eq_getElem hk⟩
    have hN := kidsN_at hx
    have hlen := kidsN_length es k
    obtain ⟨i0, hi0, hz0, hz1, hz2⟩ := infoI
    generalize kidsN es (k : Int) = KN at *
    have b1 : decide ((k : Int) < 0) = false := by simp
    have b2 : decide ((es.length : Int) ≤ k) = false := by simp; omega
    have b3 : decide (es.length ≤ k) = false := by simp; omega
    go_enter Tryz.func47, Tryz.ntmps47
    go_wp2_with fail
    go_loopw [5, 6] (fun l n wr => ∃ (m : Nat) (ns : List Nat), k + 1 ≤ m ∧ m ≤ es.length ∧ n = .int .i64 m ∧ NRow wr w.heap.size l ns ∧ Below w.heap.size w wr ∧ ns ++ kidsG x.d (es.drop m) m = KN) (fun _ n _ => es.length - (RowKit.intOf n).toNat)
    case atStart => exact ⟨k + 1, [], Nat.le_refl _, hk, by go_num, World.ownsRow_nil _ _ _ 1, Below.refl _ _, hN.symm⟩
    case round =>
      obtain ⟨m, ns, hkm, hm, rfl, hR, hB, hZ⟩ := hrel
      have hr' := hr.below hB
      obtain ⟨g, o, pa, ca, rfl, hg, q0, -⟩ := hr'.c k x hx
      by_cases hlt : m < es.length
      · obtain ⟨y, hy⟩ : ∃ y, es[m]? = some y := ⟨es[m], List.getElem?_eq_getElem hlt⟩
        obtain ⟨g2, o2, pa2, ca2, e2, hg2, r0, -⟩ := hr'.c m y hy
        injection e2 with e2
        injection e2 with e2 e3
        subst e2 e3
        rw [drop_at hy] at hZ
        simp only [kidsG] at hZ
        have hym := hd y (List.mem_of_getElem? hy)
        have hxm := hd x (List.mem_of_getElem? hx)
        clear hN hr hr' hx hy hd
        obtain ⟨yd, _, _, _, _⟩ := y
        obtain ⟨xd, _, _, _, _⟩ := x
        simp only at q0 r0 hZ hym hxm
        have hlt2 : (m : Int) < es.length := by omega
        by_cases h1 : xd < yd
        · rw [if_pos h1] at hZ
          have hwr : IntKind.i64.wrap (xd + 1) = xd + 1 := by rw [IntKind.wrap_i64]; omega
          by_cases h2 : yd = xd + 1
          · rw [if_pos h2] at hZ
            subst h2
            have hns : ns.length + 1 ≤ es.length := by rw [← hZ] at hlen; rw [List.length_append, List.length_cons] at hlen; omega
            have hR1 : ∀ n, NRow ((wr.drewN n).alloc (.cells #[.int .i64 (m : Int)] 3)) w.heap.size u5 ns := fun n => hR.below (tdr (Below.refl _ wr) |>.alloc (Nat.le_refl _) _)
            go_wp2_with fail
            go_quiet (fail)
            go_wp2_with fail
            go_quiet (fail)
            go_wp2_with (at_builtin; refine wpList_append_own _ rfl _ _ 83 rfl w.heap.size 3 i0 (.int .i64 0) 1 8 Tryz.underlying83 hi0 hz0 hz1 hz2 rfl (by decide) _ ns.length (ns.map cI) rfl (hR1 _) ⟨wr.heap.size, 0, none⟩ 1 1 [.int .i64 (m : Int)] rfl rfl (cell_one_new _ _ _) (fun u hu => by cases hu with | head => rfl | tail _ h => cases h) (by simp only [maxLen]; omega) (by omega) (by have := hB.size; simp; omega) ?_; intro v' w2 hown' hgrow _)
            have hbe : Below w.heap.size wr w2 := (tdr (Below.refl _ wr) |>.alloc hB.size _).grown hgrow (by have := hB.size; simp; omega) (own_ge hR)
            go_roundw
            case rel => exact ⟨m + 1, ns ++ [m], by omega, by omega, by go_num, NRow.snoc hown', hB.trans hbe, by rw [List.append_assoc]; exact hZ⟩
            case measure => simp [RowKit.intOf]; omega
          · rw [if_neg h2] at hZ
            have h3 : (yd == xd + 1) = false := beq_eq_false_iff_ne.2 h2
            go_wp2_with fail
            go_quiet (fail)
            go_wp2_with fail
            go_quiet (fail)
            go_wp2_with fail
            go_roundw
            case rel => exact ⟨m + 1, ns, by omega, by omega, by go_num, hR, tdr hB, hZ⟩
            case measure => simp [RowKit.intOf]; omega
        · rw [if_neg h1, List.append_nil] at hZ
          go_wp2_with fail
          go_quiet (fail)
          go_wp2_with fail
          go_ret
          exact ⟨_, rfl, by rw [← hZ]; exact hR, tdr hB⟩
      · obtain rfl : m = es.length := by omega
        go_wp2_with fail
        go_quiet (fail)
        go_wp2_with fail
        rw [List.drop_length] at hZ
        simp only [kidsG, List.append_nil] at hZ
        go_ret
        exact ⟨_, rfl, by rw [← hZ]; exact hR, tdr hB⟩
  · have hN : kidsN es i = [] := by
      unfold kidsN
      split
      · rw [List.getElem?_eq_none (by omega)]
      · rfl
    rw [hN]
    by_cases h1 : 0 ≤ i
    · obtain ⟨k, rfl⟩ : ∃ k : Nat, i = k := ⟨i.toNat, by omega⟩
      have b1 : decide ((k : Int) < 0) = false := by simp
      have b2 : decide ((es.length : Int) ≤ k) = true := by simp; omega
      have b3 : decide (es.length ≤ k) = true := by simp; omega
      have b4 : es.length ≤ k := by omega
      go_enter Tryz.func47, Tryz.ntmps47
      go_wp2_with fail
      go_ret
      exact ⟨_, rfl, World.ownsRow_nil _ _ _ 1, Below.refl _ _⟩
    · have b1 : decide (i < 0) = true := by simp; omega
      have b2 : i < 0 := by omega
      go_enter Tryz.func47, Tryz.ntmps47
      go_wp2_with fail
      go_ret
      exact ⟨_, rfl, World.ownsRow_nil _ _ _ 1, Below.refl _ _⟩
end Go.Proofs.YtchfphakhmifmaaGreatDoor
namespace Go.Proofs.YtchfphakhmifmaaGreatDoor
open Go.ChangeShapes Go.WideShapes Go.ChangeAt Go.RowKit

theorem ownLt {W : World} {base : Nat} {e : TypeId} {s : Nat} {v : Value} {n : Nat} {xs : List Value} (h : W.ownsRow base e s v n xs) {k : Nat} (hk : v.ownBlock = some k) : base ≤ k ∧ k < W.heap.size := by
  rcases h.2 with ⟨rfl, _⟩ | ⟨g, cap, cur, rfl, hb', hg, r⟩
  · cases hk
  · cases hk; exact ⟨hb', (Array.getElem?_eq_some_iff.1 hg).1⟩
theorem ownSame {W W' : World} {base : Nat} {e : TypeId} {s : Nat} {v : Value} {n : Nat} {xs : List Value} (h : W.ownsRow base e s v n xs) (hb : ∀ k, v.ownBlock = some k → W'.heap[k]? = W.heap[k]?) : W'.ownsRow base e s v n xs := by
  refine ⟨h.1, ?_⟩
  rcases h.2 with h0 | ⟨g, cap, cur, rfl, hb', hg, r⟩
  · exact .inl h0
  · exact .inr ⟨g, cap, cur, rfl, hb', (hb g rfl).trans hg, r⟩
/-- A row: what it is of, its slice, its cells. -/
structure Rw where
  ty : TypeId
  sz : Nat
  v : Value
  n : Nat
  xs : List Value
def Rw.own (r : Rw) (W : World) (bot : Nat) : Prop := W.ownsRow bot r.ty r.sz r.v r.n r.xs
/-- Rows by number; unlike numbers lie in unlike blocks. -/
structure PF (W : World) (bot : Nat) (f : Nat → Rw) : Prop where
  own : ∀ c, (f c).own W bot
  apart : ∀ c c', c ≠ c' → ∀ k, (f c).v.ownBlock = some k → (f c').v.ownBlock ≠ some k
def upF (f : Nat → Rw) (c : Nat) (r : Rw) : Nat → Rw := fun x => if x = c then r else f x
theorem upF_same (f : Nat → Rw) (c : Nat) (r : Rw) : upF f c r c = r := if_pos rfl
theorem upF_ne (f : Nat → Rw) (c : Nat) (r : Rw) {x : Nat} (h : x ≠ c) : upF f c r x = f x := if_neg h
theorem PF.lt {W : World} {bot : Nat} {f : Nat → Rw} (h : PF W bot f) (c : Nat) {k : Nat} (hk : (f c).v.ownBlock = some k) : bot ≤ k ∧ k < W.heap.size := ownLt (h.own c) hk
/-- Nothing from bot on has changed. -/
theorem PF.same {W W' : World} {bot : Nat} {f : Nat → Rw} (h : PF W bot f) (hb : ∀ k, bot ≤ k → k < W.heap.size → W'.heap[k]? = W.heap[k]?) : PF W' bot f :=
  ⟨fun c => ownSame (h.own c) fun k hk => hb k (h.lt c hk).1 (h.lt c hk).2, h.apart⟩
theorem PF.keep {W W' : World} {bot : Nat} {f : Nat → Rw} (h : PF W bot f) (hb : Below W.heap.size W W') : PF W' bot f := h.same fun k _ hk => hb.block k hk
/-- One row is another now: in the block that it had, or in a new one. -/
theorem PF.upd {W W' : World} {bot : Nat} {f : Nat → Rw} (h : PF W bot f) (c : Nat) {r : Rw} (hO : r.own W' bot) (hv : ∀ k, r.v.ownBlock = some k → (f c).v.ownBlock = some k ∨ W.heap.size ≤ k) (hk : ∀ k, bot ≤ k → k < W.heap.size → (f c).v.ownBlock ≠ some k → W'.heap[k]? = W.heap[k]?) : PF W' bot (upF f c r) := by
  have hap : ∀ d, d ≠ c → ∀ k, r.v.ownBlock = some k → (f d).v.ownBlock ≠ some k := fun d hd k hk1 e => by
    rcases hv k hk1 with h1 | h1
    · exact h.apart d c hd k e h1
    · have := (h.lt d e).2; omega
  refine ⟨fun d => ?_, fun d d' hne k hk1 hk2 => ?_⟩
  · by_cases hd : d = c
    · subst hd; rw [upF_same]; exact hO
    · rw [upF_ne _ _ _ hd]
      exact ownSame (h.own d) fun k hk' => hk k (h.lt d hk').1 (h.lt d hk').2 fun e => h.apart d c hd k hk' e
  · by_cases hd : d = c
    · subst hd
      rw [upF_same] at hk1
      rw [upF_ne _ _ _ (fun e => hne e.symm)] at hk2
      exact hap d' (fun e => hne e.symm) k hk1 hk2
    · rw [upF_ne _ _ _ hd] at hk1
      by_cases hd' : d' = c
      · subst hd'
        rw [upF_same] at hk2
        exact hap d hd k hk2 hk1
      · rw [upF_ne _ _ _ hd'] at hk2
        exact h.apart d d' hne k hk1 hk2
/-- Cells of the same width, in a row. -/
theorem flat_length {α : Type} (f : α → List Value) (z : Nat) (hf : ∀ x, (f x).length = z) (l : List α) : (l.flatMap f).length = l.length * z := by
  induction l with
  | nil => simp
  | cons a r ih => rw [List.flatMap_cons, List.length_append, ih, List.length_cons, hf, Nat.add_mul]; omega
theorem flat_get {α : Type} (f : α → List Value) (z : Nat) (hf : ∀ x, (f x).length = z) : ∀ (l : List α) (i : Nat) (t : α), l[i]? = some t → ∀ j, j < z → (l.flatMap f)[i * z + j]? = (f t)[j]?
  | [], _, _, h, _, _ => by cases h
  | a :: r, 0, t, h, j, hj => by
    cases h
    rw [List.flatMap_cons, List.getElem?_append_left (by rw [hf]; omega), Nat.zero_mul, Nat.zero_add]
  | a :: r, i + 1, t, h, j, hj => by
    have ih := flat_get f z hf r i t h j hj
    rw [List.flatMap_cons, List.getElem?_append_right (by rw [hf, Nat.add_mul]; omega), hf, ← ih]
    congr 1
    rw [Nat.add_mul]
    omega
theorem flat_set {α : Type} (f : α → List Value) (z : Nat) (hf : ∀ x, (f x).length = z) : ∀ (l : List α) (i : Nat) (t t' : α) (j : Nat) (u : Value), l[i]? = some t → j < z → f t' = (f t).set j u → (l.set i t').flatMap f = (l.flatMap f).set (i * z + j) u
  | [], _, _, _, _, _, h, _, _ => by cases h
  | a :: r, 0, t, t', j, u, h, hj, e => by
    cases h
    rw [List.set_cons_zero, List.flatMap_cons, List.flatMap_cons, e, Nat.zero_mul, Nat.zero_add, List.set_append_left _ _ (by rw [hf]; exact hj)]
  | a :: r, i + 1, t, t', j, u, h, hj, e => by
    have ih := flat_set f z hf r i t t' j u h hj e
    rw [List.set_cons_succ, List.flatMap_cons, List.flatMap_cons, ih, List.set_append_right _ _ (by rw [hf, Nat.add_mul]; omega), hf]
    congr 2
    rw [Nat.add_mul]
    omega
/-- A cell of a row of one's own. -/
theorem own_get {W : World} {base : Nat} {e : TypeId} {size g n cap : Nat} {xs : List Value} (h : W.ownsRow base e size (.slice (some ⟨g, 0, none⟩) n cap) n xs) {o : Nat} {u : Value} (ho : xs[o]? = some u) : W.cell? ⟨g, o, none⟩ = some u ∧ W.frozen? ⟨g, o, none⟩ = false ∧ base ≤ g ∧ g < W.heap.size := by
  have hc := World.ownsRow.cells h (g := g) rfl o _ ho
  have ea : (⟨g, 0, none⟩ : Addr).add o = ⟨g, o, none⟩ := by unfold Addr.add; split <;> simp_all
  rw [ea] at hc
  refine ⟨hc, ?_, ownLt h rfl⟩
  rcases h.2 with ⟨e1, _⟩ | ⟨g', cap', cur, e1, hb, hg, hn, hm, hs, hx⟩
  · cases e1
  · cases e1
    simp only [World.frozen?, hg]
    simp
theorem own_put {W : World} {base : Nat} {e : TypeId} {size g n cap : Nat} {xs : List Value} (h : W.ownsRow base e size (.slice (some ⟨g, 0, none⟩) n cap) n xs) (o : Nat) (u : Value) : (W.setCell ⟨g, o, none⟩ u).ownsRow base e size (.slice (some ⟨g, 0, none⟩) n cap) n (xs.set o u) := by
  rcases h.2 with ⟨e1, _⟩ | ⟨g', cap', cur, e1, hb, hg, hn, hm, hs, hx⟩
  · cases e1
  · cases e1
    refine ⟨by rw [List.length_set]; exact h.1, .inr ⟨g, cap, cur.setIfInBounds o u, rfl, hb, ?_, hn, hm, by simpa using hs, ?_⟩⟩
    · have e : (W.setCell ⟨g, o, none⟩ u).heap = W.heap.modify g (fun x => match x with
        | .cells cs t f => .cells (cs.setIfInBounds o u) t f
        | x => x) := rfl
      rw [e, Array.getElem?_modify, if_pos rfl, hg]
      rfl
    · rw [← hx, Array.toList_setIfInBounds, List.take_set]
theorem own_shape {W : World} {base : Nat} {e : TypeId} {size n : Nat} {v : Value} {xs : List Value} (h : W.ownsRow base e size v n xs) (hn : 0 < n) : ∃ g cap, v = .slice (some ⟨g, 0, none⟩) n cap := by
  rcases h.2 with ⟨_, h0⟩ | ⟨g, cap, cur, e1, _⟩
  · omega
  · exact ⟨g, cap, e1⟩
theorem own_sl {W : World} {base : Nat} {e : TypeId} {size n : Nat} {v : Value} {xs : List Value} (h : W.ownsRow base e size v n xs) : ∃ p cap, v = .slice p n cap := by
  rcases h.2 with ⟨rfl, rfl⟩ | ⟨g, cap, cur, rfl, _⟩
  · exact ⟨none, 0, rfl⟩
  · exact ⟨_, cap, rfl⟩
/-- A front of a row. -/
theorem own_front {W : World} {base : Nat} {e : TypeId} {size g n m cap : Nat} {xs : List Value} (h : W.ownsRow base e size (.slice (some ⟨g, 0, none⟩) n cap) n xs) (hm : m ≤ n) : W.ownsRow base e size (.slice (some ⟨g, 0, none⟩) m cap) m (xs.take (m * size)) := by
  rcases h.2 with ⟨e1, _⟩ | ⟨g', cap', cur, e1, hb, hg, hn, hc, hs, hx⟩
  · cases e1
  · cases e1
    have hmn : m * size ≤ n * size := Nat.mul_le_mul_right _ hm
    refine ⟨by rw [List.length_take, h.1]; omega, .inr ⟨g, cap, cur, rfl, hb, hg, by omega, hc, hs, ?_⟩⟩
    rw [← hx, List.take_take]
    congr 1
    omega
/-- One cell of one row is written. -/
theorem PF.put {W : World} {bot : Nat} {f : Nat → Rw} (h : PF W bot f) (c : Nat) {g n cap o : Nat} (hv : (f c).v = .slice (some ⟨g, 0, none⟩) n cap) (hn : (f c).n = n) (u : Value) : PF (W.setCell ⟨g, o, none⟩ u) bot (upF f c ⟨(f c).ty, (f c).sz, .slice (some ⟨g, 0, none⟩) n cap, n, (f c).xs.set o u⟩) := by
  have hO := h.own c
  unfold Rw.own at hO
  rw [hv, hn] at hO
  refine h.upd c (own_put hO o u) (fun k hk => .inl (by rw [hv]; exact hk)) (fun k _ _ hne => Below.heap_setCell _ _ _ _ (fun e => hne (by rw [hv, e]; rfl)))
end Go.Proofs.YtchfphakhmifmaaGreatDoor
namespace Go.Proofs.YtchfphakhmifmaaGreatDoor
open Go.ChangeShapes Go.WideShapes Go.ChangeAt Go.RowKit

theorem twpList_append_ex {P : Program} {w : World} {ops : Array Oper} {rest : List Oper} {o : Oper} {a : Act} {Q : Exit → Act → World → Prop} (hgd : o.guard = none) (s x : Operand) (t tx : TypeId)
    (ho : o.op = .call { callee := .builtin .append, args := #[s, x], argTypes := #[t, tx] }) (sv xv : Value) (hs : a.eval s = sv) (hx : a.eval x = xv) (Post : Value → World → Prop)
    (hrun : ∃ v w', (∀ ty, (Builtin.append_ #[t, tx] ty #[sv, xv]).run P w = .ok v w') ∧ Post v w')
    (h : ∀ v w', Post v w' → wpList P ops Q rest (a.put o.dst v) w') : wpList P ops Q (o :: rest) a w := by
  obtain ⟨v, w', hr, hp⟩ := hrun
  refine wpList_plain hgd fun _ hK => ?_
  unfold Oper.wp execOp
  simp only [ho, resolve, invoke, builtin, Sem.run_bind, Sem.run_pure, Result.andThen_ok, List.map_toArray, List.map_cons, List.map_nil, hs, hx, hr]
  exact hK _ _ (h v w' hp)
theorem ownsRow_below {w w' : World} {base : Nat} {e : TypeId} {size : Nat} {v : Value} {n : Nat} {xs : List Value} (h : w.ownsRow base e size v n xs) (hb : Below w.heap.size w w') : w'.ownsRow base e size v n xs := by
  refine World.ownsRow.kept (row := none) h ⟨hb.os, hb.tape, hb.output, hb.size, fun k hk _ => hb.block k hk⟩ ?_
  cases hv : v.ownBlock <;> simp
theorem tinfo {t : TypeId} {z : Value} {s b : Nat} (h : (Tryz.prog.info? t).map (fun i => (i.zero, i.size, i.bytes)) = some (some z, s, b)) : ∃ i, Tryz.prog.info? t = some i ∧ i.zero = some z ∧ i.size = s ∧ i.bytes = b := by
  obtain ⟨i, hi, hz⟩ := Option.map_eq_some_iff.1 h
  simp only [Prod.mk.injEq] at hz
  exact ⟨i, hi, hz.1, hz.2.1, hz.2.2⟩
abbrev zAtt : Value := .agg #[.string ⟨#[]⟩, .string ⟨#[]⟩, .int .i64 0]
abbrev zEl : Value := .agg #[.int .i64 0, .string ⟨#[]⟩, .slice none 0 0, .string ⟨#[]⟩, .int .i64 0]
theorem infoAt : (Tryz.prog.info? 58).map (fun i => (i.zero, i.size, i.bytes)) = some (some zAtt, 3, 40) := by kernel_rfl
theorem infoEl : (Tryz.prog.info? 56).map (fun i => (i.zero, i.size, i.bytes)) = some (some zEl, 5, 72) := by kernel_rfl
theorem attCells_get : ∀ (al : List Att) (i : Nat) (t : Att), al[i]? = some t → ∀ j, j < 3 → (attCells al)[i * 3 + j]? = (attC t)[j]?
  | [], _, _, h, _, _ => by cases h
  | a :: r, 0, t, h, j, hj => by
    cases h
    unfold attCells
    rw [List.flatMap_cons, List.getElem?_append_left (by simp [attC]; omega), Nat.zero_mul, Nat.zero_add]
  | a :: r, i + 1, t, h, j, hj => by
    have ih := attCells_get r i t h j hj
    unfold attCells at ih ⊢
    have hl : (attC a).length = 3 := rfl
    rw [List.flatMap_cons, List.getElem?_append_right (by omega), hl, ← ih]
    congr 1
    omega
theorem addr0 (g k : Nat) : (⟨g, 0, none⟩ : Addr).add k = ⟨g, k, none⟩ := by unfold Addr.add; split <;> simp_all
theorem addrk (g o k : Nat) : (⟨g, o, none⟩ : Addr).add k = ⟨g, o + k, none⟩ := by unfold Addr.add; split <;> simp_all
/-- The cells of attributes that lie somewhere. -/
theorem ARow.news {w : World} {ad : Addr} {H : Nat} {al : List Att} (h : ARow w (some ad) H al) : ∀ j u, (attCells al)[j]? = some u → w.cell? (ad.add j) = some u := by
  intro j u hu
  have hj : j < al.length * 3 := by rw [← attCells_length]; exact (List.getElem?_eq_some_iff.1 hu).1
  have hi : j / 3 < al.length := by omega
  obtain ⟨g, o, e, _, h0, h1, h2⟩ := h.c (j / 3) al[j / 3] (List.getElem?_eq_getElem hi)
  cases e
  have hg := attCells_get al (j / 3) al[j / 3] (List.getElem?_eq_getElem hi) (j % 3) (by omega)
  rw [show j / 3 * 3 + j % 3 = j by omega, hu] at hg
  rw [addrk]
  have h3 : j % 3 = 0 ∨ j % 3 = 1 ∨ j % 3 = 2 := by omega
  rcases h3 with h3 | h3 | h3
  · rw [h3] at hg
    cases Option.some.inj hg
    rw [show o + j = o + j / 3 * 3 by omega]; exact h0
  · rw [h3] at hg
    cases Option.some.inj hg
    rw [show o + j = o + j / 3 * 3 + 1 by omega]; exact h1
  · rw [h3] at hg
    cases Option.some.inj hg
    rw [show o + j = o + j / 3 * 3 + 2 by omega]; exact h2
/-- Attributes that a call has laid by append. -/
theorem ARow.of_own {w : World} {base g cap H : Nat} {al bl : List Att} {n : Nat} (h : w.ownsRow base 58 3 (.slice (some ⟨g, 0, none⟩) n cap) n (attCells (al ++ bl))) (hg : g < H) : ARow w (some ⟨g, 0, none⟩) H al :=
  ⟨fun i t ht => by
    have hti : (al ++ bl)[i]? = some t := by rw [List.getElem?_append_left (List.getElem?_eq_some_iff.1 ht).1]; exact ht
    have hc := World.ownsRow.cells h (g := g) rfl
    have c0 := hc (i * 3) _ (attCells_get _ i t hti 0 (by decide))
    have c1 := hc (i * 3 + 1) _ (attCells_get _ i t hti 1 (by decide))
    have c2 := hc (i * 3 + 2) _ (attCells_get _ i t hti 2 (by decide))
    rw [addr0] at c0 c1 c2
    exact ⟨g, 0, rfl, hg, by rw [Nat.zero_add]; exact c0, by rw [Nat.zero_add]; exact c1, by rw [Nat.zero_add]; exact c2⟩⟩
/-- 'append(nil, x.Attrs...)'. -/
theorem att_cp {w : World} {pa : Option Addr} {ca H : Nat} {al : List Att} (hA : ARow w pa H al) (hl : al.length * 40 ≤ 140737488351232) :
    ∃ v' w', (∀ ty, (Builtin.append_ #[54, 54] ty #[.slice none 0 0, .slice pa al.length ca]).run Tryz.prog w = .ok v' w') ∧ (w'.ownsRow w.heap.size 58 3 v' al.length (attCells al) ∧ Below w.heap.size w w') := by
  obtain ⟨i0, hi, hz, hs, hb⟩ := tinfo infoAt
  cases pa with
  | none =>
    have h0 : al = [] := by
      cases al with
      | nil => rfl
      | cons a r =>
        obtain ⟨g, o, e, _⟩ := hA.c 0 a rfl
        cases e
    subst h0
    refine ⟨.slice none 0 0, w, fun ty => ?_, World.ownsRow_nil _ _ _ 3, Below.refl _ _⟩
    have S := Src.ofNil (P := Tryz.prog) (size := i0.size) w Tryz.underlying54 ca
    have hln : ∀ w' : World, (Builtin.lenOf (.slice none 0 ca)).run Tryz.prog w' = .ok 0 w' := S.len
    have hcl : (Builtin.firstCells i0.size 0 (.slice none 0 ca)).run Tryz.prog w = .ok #[] w := S.cells
    simp [Builtin.append_, run_underlying Tryz.underlying54, sizeOf, typeInfo, hi, hln, hcl]
  | some ad =>
    have hr := fun ty => run_append_own_at (P := Tryz.prog) w w.heap.size 54 ty 58 i0 zAtt 3 40 Tryz.underlying54 hi hz hs hb rfl (by decide) (.slice none 0 0) 0 [] (World.ownsRow_nil _ _ _ 3) ad al.length ca (attCells al) (attCells_length al) hA.news (attCells_one al) (by simp only [maxLen]; omega) (by omega) (Nat.le_refl _)
    obtain ⟨v', w', h1, h2, h3, _⟩ := hr 0
    refine ⟨v', w', fun ty => ?_, by simpa using h2, ⟨h3.os, h3.tape, h3.output, h3.size, fun k hk => h3.block k hk (by simp [Value.ownBlock])⟩⟩
    obtain ⟨v2, w2, k1, _⟩ := hr ty
    have e : (Builtin.append_ #[54, 54] ty #[.slice none 0 0, .slice (some ad) al.length ca]) = (Builtin.append_ #[54, 54] 0 #[.slice none 0 0, .slice (some ad) al.length ca]) := rfl
    rw [e]
    exact h1
abbrev spareS : ByteArray := ⟨#[115, 112, 97, 114, 101]⟩
def spareA : Att := ⟨spareS, ⟨#[]⟩, 0⟩
def elC (e : El) (av : Value) : List Value := [.int .i64 e.d, .string e.nm, av, .string e.tx, .int .i64 e.p]
def elCells (ps : List (El × Value)) : List Value := ps.flatMap fun x => elC x.1 x.2
theorem elCells_get : ∀ (ps : List (El × Value)) (i : Nat) (x : El × Value), ps[i]? = some x → ∀ j, j < 5 → (elCells ps)[i * 5 + j]? = (elC x.1 x.2)[j]?
  | [], _, _, h, _, _ => by cases h
  | a :: r, 0, t, h, j, hj => by
    cases h
    unfold elCells
    rw [List.flatMap_cons, List.getElem?_append_left (by simp [elC]; omega), Nat.zero_mul, Nat.zero_add]
  | a :: r, i + 1, t, h, j, hj => by
    have ih := elCells_get r i t h j hj
    unfold elCells at ih ⊢
    have hl : (elC a.1 a.2).length = 5 := rfl
    rw [List.flatMap_cons, List.getElem?_append_right (by omega), hl, ← ih]
    congr 1
    omega
/-- A list of attributes of one's own, with one more in its room; not in block ow. -/
def AGood (w : World) (base : Nat) (ow : Option Nat) (e : El) (av : Value) : Prop :=
  ∃ ga ca, av = .slice (some ⟨ga, 0, none⟩) e.ats.length ca ∧ e.ats.length + 1 ≤ ca ∧ base ≤ ga ∧ ga < w.heap.size ∧ some ga ≠ ow ∧ ARow w (some ⟨ga, 0, none⟩) w.heap.size e.ats ∧ w.cell? ⟨ga, e.ats.length * 3, none⟩ = some (.string spareS)
theorem AGood.below {w w' : World} {base : Nat} {ow : Option Nat} {e : El} {av : Value} (h : AGood w base ow e av) (hb : Below w.heap.size w w') : AGood w' base ow e av := by
  obtain ⟨ga, ca, h1, h2, h3, h4, h5, h6, h7⟩ := h
  exact ⟨ga, ca, h1, h2, h3, Nat.lt_of_lt_of_le h4 hb.size, h5, (h6.below hb).mono hb.size, (hb.cell (p := ⟨ga, _, none⟩) h4).trans h7⟩
theorem AGood.grown {w w' : World} {base g' : Nat} {ow : Option Nat} {e : El} {av : Value} (h : AGood w base ow e av) (hg : w.grownBy w' ow) (hl : ow = some g' ∨ g' = w.heap.size) : AGood w' base (some g') e av := by
  obtain ⟨ga, ca, h1, h2, h3, h4, h5, h6, h7⟩ := h
  have hc : ∀ k, w'.cell? ⟨ga, k, none⟩ = w.cell? ⟨ga, k, none⟩ := fun k => hg.cell_far ⟨ga, k, none⟩ h4 h5
  refine ⟨ga, ca, h1, h2, h3, Nat.lt_of_lt_of_le h4 hg.size, ?_, ⟨fun i t ht => ?_⟩, (hc _).trans h7⟩
  · rcases hl with hl | hl
    · rw [← hl]; exact h5
    · rw [hl]; intro e; injection e with e; omega
  · obtain ⟨g, o, e, hgl, q0, q1, q2⟩ := h6.c i t ht
    cases e
    exact ⟨ga, 0, rfl, Nat.lt_of_lt_of_le hgl hg.size, (hc _).trans q0, (hc _).trans q1, (hc _).trans q2⟩
/-- A copied list: the elements, with one more in each list's room. -/
structure CRow (w : World) (base g cap : Nat) (es : List El) : Prop where
  er : ERow w (some ⟨g, 0, none⟩) w.heap.size es
  room : es.length + 1 ≤ cap
  ge : base ≤ g
  sp : w.cell? ⟨g, es.length * 5 + 1, none⟩ = some (.string spareS)
  at_ : ∀ (i : Nat) (e : El), es[i]? = some e → ∃ ga ca, w.cell? ⟨g, i * 5 + 2, none⟩ = some (.slice (some ⟨ga, 0, none⟩) e.ats.length ca) ∧ e.ats.length + 1 ≤ ca ∧ ga < w.heap.size ∧ w.cell? ⟨ga, e.ats.length * 3, none⟩ = some (.string spareS)
  blk : ∃ cur, w.heap[g]? = some (.cells cur 56 (0, 0)) ∧ cur.size = cap * 5
theorem CRow.lt {w : World} {base g cap : Nat} {es : List El} (h : CRow w base g cap es) : g < w.heap.size := by
  obtain ⟨cur, hc, _⟩ := h.blk
  exact (Array.getElem?_eq_some_iff.1 hc).1
theorem CRow.below {w w' : World} {base g cap : Nat} {es : List El} (h : CRow w base g cap es) (hb : Below w.heap.size w w') : CRow w' base g cap es := by
  refine ⟨(h.er.below hb).mono hb.size, h.room, h.ge, (hb.cell (p := ⟨g, _, none⟩) h.lt).trans h.sp, fun i e he => ?_, ?_⟩
  · obtain ⟨ga, ca, h1, h2, h3, h4⟩ := h.at_ i e he
    exact ⟨ga, ca, (hb.cell (p := ⟨g, _, none⟩) h.lt).trans h1, h2, Nat.lt_of_lt_of_le h3 hb.size, (hb.cell (p := ⟨ga, _, none⟩) h3).trans h4⟩
  · obtain ⟨cur, hc, hs⟩ := h.blk
    exact ⟨cur, (hb.block g h.lt).trans hc, hs⟩
end Go.Proofs.YtchfphakhmifmaaGreatDoor
namespace Go.Proofs.YtchfphakhmifmaaGreatDoor
open Go.ChangeShapes Go.WideShapes Go.ChangeAt Go.RowKit

abbrev elO (e : El) (av : Value) : Obj := .cells #[.int .i64 e.d, .string e.nm, av, .string e.tx, .int .i64 e.p] 56
theorem elCells_snoc (ps : List (El × Value)) (x : El × Value) : elCells (ps ++ [x]) = elCells ps ++ elC x.1 x.2 := by
  unfold elCells
  rw [List.flatMap_append]
  simp
theorem attCells_snoc (al : List Att) (x : Att) : attCells (al ++ [x]) = attCells al ++ attC x := by
  unfold attCells
  rw [List.flatMap_append]
  simp
theorem elC_one (e : El) (pa : Option Addr) (n c : Nat) : ∀ u ∈ elC e (.slice pa n c), u.oneCell' = true := by
  intro u hu
  simp only [elC, List.mem_cons, List.not_mem_nil, or_false] at hu
  rcases hu with rfl | rfl | rfl | rfl | rfl <;> rfl
theorem own_cap {w : World} {base : Nat} {e : TypeId} {size : Nat} {pp : Option Addr} {n cap : Nat} {xs : List Value} (h : w.ownsRow base e size (.slice pp n cap) n xs) (hn : 0 < n) : n ≤ cap := by
  rcases h.2 with ⟨_, h0⟩ | ⟨g, cp, cur, hv, _, _, hc, _⟩
  · omega
  · injection hv with _ _ h3
    omega
theorem elO_set {W : World} {X : Nat} {x : El} {a : Value} (h : W.heap[X]? = some (elO x a)) (b : Value) : (W.setCell ⟨X, 2, none⟩ b).heap[X]? = some (elO x b) := by
  have hX := (Array.getElem?_eq_some_iff.1 h).1
  have e : (W.setCell ⟨X, 2, none⟩ b).heap = W.heap.modify X (fun o => match o with
    | .cells cs t f => .cells (cs.setIfInBounds 2 b) t f
    | o => o) := by
    rfl
  rw [e, Array.getElem?_modify, if_pos rfl, h]
  rfl
theorem elO_cell {W : World} {X : Nat} {x : El} {a : Value} (h : W.heap[X]? = some (elO x a)) : W.cell? ⟨X, 0, none⟩ = some (.int .i64 x.d) ∧ W.cell? ⟨X, 1, none⟩ = some (.string x.nm) ∧ W.cell? ⟨X, 2, none⟩ = some a ∧ W.cell? ⟨X, 3, none⟩ = some (.string x.tx) ∧ W.cell? ⟨X, 4, none⟩ = some (.int .i64 x.p) ∧ ∀ o, W.frozen? ⟨X, o, none⟩ = false := by
  refine ⟨?_, ?_, ?_, ?_, ?_, fun o => ?_⟩
  · simp only [World.cell?, h]; rfl
  · simp only [World.cell?, h]; rfl
  · simp only [World.cell?, h]; rfl
  · simp only [World.cell?, h]; rfl
  · simp only [World.cell?, h]; rfl
  · simp only [World.frozen?, h]; simp
set_option maxRecDepth 100000 in
set_option maxHeartbeats 4000000 in
theorem copied_any (pp : Option Addr) (cp : Nat) (es : List El) (w : World) (hr : ERow w pp w.heap.size es) (hl : es.length * 72 ≤ 140737488351232) (ha : ∀ e ∈ es, e.ats.length * 40 ≤ 140737488351232) :
    Calls Tryz.prog 11 #[.slice pp es.length cp] w fun e w' => ∃ g cap, e = .returned (.slice (some ⟨g, 0, none⟩) es.length cap) ∧ CRow w' w.heap.size g cap es ∧ Below w.heap.size w w' := by
  obtain ⟨iA, hiA, hzA, hsA, hbA⟩ := tinfo infoAt
  obtain ⟨iE, hiE, hzE, hsE, hbE⟩ := tinfo infoEl
  go_enter Tryz.func11, Tryz.ntmps11
  go_wp2_with fail
  go_loopw [3, 4] (fun v i wr => ∃ (k : Nat) (ps : List (El × Value)), k ≤ es.length ∧ i = .int .i64 k ∧ ps.map (·.1) = es.take k ∧ wr.ownsRow w.heap.size 56 5 v k (elCells ps) ∧ (∀ x ∈ ps, AGood wr w.heap.size v.ownBlock x.1 x.2) ∧ Below w.heap.size w wr) (fun _ i _ => es.length - (RowKit.intOf i).toNat)
  case atStart => exact ⟨0, [], Nat.zero_le _, rfl, rfl, World.ownsRow_nil _ _ _ 5, fun _ h => (by cases h), Below.refl _ _⟩
  case round =>
    obtain ⟨k, ps, hk, rfl, hps, hO, hG, hB⟩ := hrel
    by_cases hlt : k < es.length
    · obtain ⟨x, hx⟩ : ∃ x, es[k]? = some x := ⟨es[k], List.getElem?_eq_getElem hlt⟩
      obtain ⟨g, o, pa, ca, rfl, hg, q0, q1, q2, q3, q4, hA⟩ := (hr.below hB).c k x hx
      have hxa := ha x (List.mem_of_getElem? hx)
      have hb1 : Below wr.heap.size wr (wr.alloc (elO x (.slice pa x.ats.length ca))) := (Below.refl _ _).alloc (Nat.le_refl _) _
      have hA1 := (hA.mono hB.size).below hb1
      obtain ⟨v2, w2, hrun, hO2, hB2⟩ := att_cp (ca := ca) hA1 hxa
      have hlt2 : (k : Int) < es.length := by omega
      have hX := thn wr (elO x (.slice pa x.ats.length ca))
      have hXc : (wr.alloc (elO x (.slice pa x.ats.length ca))).cell? ⟨wr.heap.size, 2, none⟩ = some (.slice pa x.ats.length ca) := by simp only [World.cell?, hX]; rfl
      have F1 : Hid (1 = 1) := rfl
      have F2 : Hid (1 = 1) := rfl
      have F3 : Hid (1 = 1) := rfl
      have hN2 : ∀ j u, (attC spareA)[j]? = some u → (w2.alloc (.cells #[.string spareS, .string ⟨#[]⟩, .int .i64 0] 58)).cell? ((⟨w2.heap.size, 0, none⟩ : Addr).add j) = some u := World.news_of_block (thn w2 _)
      rw [World.size_alloc] at hO2 hB2
      have hO3 := ownsRow_below hO2 ((Below.refl _ w2).alloc (Nat.le_refl _) (.cells #[.string spareS, .string ⟨#[]⟩, .int .i64 0] 58))
      go_wp2_with (first
        | (at_builtin; clear F1; go_must (refine (twpList_append_ex (by rfl) _ _ _ _ (by rfl) _ _ (by rfl) (by rfl) (fun a b => v2 = a ∧ w2 = b) ⟨v2, w2, hrun, rfl, rfl⟩ ?_)); rintro _ _ ⟨rfl, rfl⟩)
        | (at_builtin; clear F2; go_must (refine wpList_append_lies _ rfl _ _ 54 rfl (wr.heap.size + 1) 58 iA zAtt 3 40 Tryz.underlying54 hiA hzA hsA hbA rfl (by decide) v2 x.ats.length (attCells x.ats) rfl hO3 ⟨w2.heap.size, 0, none⟩ 1 1 (attC spareA) rfl rfl hN2 (fun u hu => by simp only [attC, List.mem_cons, List.not_mem_nil, or_false] at hu; rcases hu with rfl | rfl | rfl <;> rfl) (by decide) (by simp only [maxLen]; omega) (by omega) (by have := hB2.size; simp at this ⊢; omega) (w2.heap.size + 1) (by simp) ?_); intro ga capa w4 hO4 hgr4 hat4 hlt4; have hB4 : Below (wr.heap.size + 1) (wr.alloc (elO x (.slice pa x.ats.length ca))) w4 := hB2.trans (((Below.refl _ w2).alloc (by have := hB2.size; simp at this; omega) _).grown hgr4 (by have := hB2.size; simp at this ⊢; omega) (own_ge hO2)); have hX4 : w4.heap[wr.heap.size]? = some (elO x (.slice pa x.ats.length ca)) := (hB4.block _ (by omega)).trans hX; have q24 : w4.cell? ⟨g, o + k * 5 + 2, none⟩ = some (.slice pa x.ats.length ca) := (hB4.cell (p := ⟨g, _, none⟩) (by have := hB.size; show g < _; omega)).trans ((hb1.cell (p := ⟨g, _, none⟩) (by have := hB.size; show g < _; omega)).trans q2); have hcap := own_cap hO4 (by omega); obtain ⟨c0, c1, c2, c3, c4, cf⟩ := elO_cell hX4; obtain ⟨d0, d1, d2, d3, d4, df⟩ := elO_cell (elO_set hX4 (.slice (some ⟨ga, 0, none⟩) x.ats.length capa)); have hci : (x.ats.length : Int) ≤ capa := (by omega); have hB5 : Below wr.heap.size wr ((w4.setCell ⟨wr.heap.size, 2, none⟩ (.slice (some ⟨ga, 0, none⟩) x.ats.length capa)).alloc (elO x (.slice (some ⟨ga, 0, none⟩) x.ats.length capa))) := ((hb1.trans (hB4.mono (by omega))).setCell (Nat.le_refl _) _).alloc (by have := hB4.size; simp [World.setCell] at this ⊢; omega) _; have hO5 := ownsRow_below hO hB5)
        | (at_builtin; clear F3; go_must (refine wpList_append_lies _ rfl _ _ 22 rfl w.heap.size 56 iE zEl 5 72 Tryz.underlying22 hiE hzE hsE hbE rfl (by decide) _ k (elCells ps) rfl hO5 ⟨w4.heap.size, 0, none⟩ 1 1 (elC x (.slice (some ⟨ga, 0, none⟩) x.ats.length capa)) rfl rfl (World.news_of_block (by simpa [World.setCell] using thn (w4.setCell ⟨wr.heap.size, 2, none⟩ (.slice (some ⟨ga, 0, none⟩) x.ats.length capa)) (elO x (.slice (some ⟨ga, 0, none⟩) x.ats.length capa)))) (elC_one x _ _ _) (by decide) (by simp only [maxLen]; omega) (by omega) (Nat.le_trans hB.size hB5.size) _ rfl ?_); intro gn capn w6 hO6 hgr6 hat6 hlt6))
      have hX5 : ∀ off, ((w4.setCell ⟨wr.heap.size, 2, none⟩ (.slice (some ⟨ga, 0, none⟩) x.ats.length capa)).alloc (elO x (.slice (some ⟨ga, 0, none⟩) x.ats.length capa))).cell? ⟨ga, off, none⟩ = w4.cell? ⟨ga, off, none⟩ := fun off => by
        have hga := own_ge hO4 ga rfl
        refine (((Below.refl _ (w4.setCell ⟨wr.heap.size, 2, none⟩ (.slice (some ⟨ga, 0, none⟩) x.ats.length capa))).alloc (Nat.le_refl _) _).cell (p := ⟨ga, off, none⟩) (by simpa [World.setCell] using hlt4)).trans ?_
        exact World.cell?_setCell_other w4 _ _ _ (fun e => by injection e with e1 _; omega)
      rw [show attCells x.ats ++ attC spareA = attCells (x.ats ++ [spareA]) from (attCells_snoc _ _).symm] at hO4
      have hAr := ARow.of_own hO4 hlt4
      have hsp := World.ownsRow.cells hO4 (g := ga) rfl (x.ats.length * 3) _ (attCells_get _ x.ats.length spareA (by simp) 0 (by decide))
      rw [addr0] at hsp
      have hnew : AGood ((w4.setCell ⟨wr.heap.size, 2, none⟩ (.slice (some ⟨ga, 0, none⟩) x.ats.length capa)).alloc (elO x (.slice (some ⟨ga, 0, none⟩) x.ats.length capa))) w.heap.size u3.ownBlock x (.slice (some ⟨ga, 0, none⟩) x.ats.length capa) := by
        have hga := own_ge hO4 ga rfl
        have hsz5 : ((w4.setCell ⟨wr.heap.size, 2, none⟩ (.slice (some ⟨ga, 0, none⟩) x.ats.length capa)).alloc (elO x (.slice (some ⟨ga, 0, none⟩) x.ats.length capa))).heap.size = w4.heap.size + 1 := by simp [World.setCell]
        refine ⟨ga, capa, rfl, hcap, by have := hB.size; omega, by omega, fun e => ?_, ⟨fun i t ht => ?_⟩, (hX5 _).trans hsp⟩
        · have := hO.lt ga e.symm; omega
        · obtain ⟨g1, o1, e1, hgl, r0, r1, r2⟩ := hAr.c i t ht
          cases e1
          exact ⟨ga, 0, rfl, by omega, (hX5 _).trans r0, (hX5 _).trans r1, (hX5 _).trans r2⟩
      have hmem : ∀ y ∈ ps ++ [(x, Value.slice (some ⟨ga, 0, none⟩) x.ats.length capa)], AGood w6 w.heap.size (some gn) y.1 y.2 := by
        intro y hy
        rcases List.mem_append.1 hy with hy | hy
        · exact ((hG y hy).below hB5).grown hgr6 hat6
        · obtain rfl := List.mem_singleton.1 hy
          exact hnew.grown hgr6 hat6
      have hB6 : Below w.heap.size w w6 := hB.trans ((hB5.mono hB.size).trans ((Below.refl _ _).grown hgr6 (Nat.le_trans hB.size hB5.size) (own_ge hO)))
      have htk : (ps ++ [(x, Value.slice (some ⟨ga, 0, none⟩) x.ats.length capa)]).map (·.1) = es.take (k + 1) := by
        rw [List.map_append, hps, List.take_add_one, hx]; rfl
      rw [show elCells ps ++ elC x (.slice (some ⟨ga, 0, none⟩) x.ats.length capa) = elCells (ps ++ [(x, .slice (some ⟨ga, 0, none⟩) x.ats.length capa)]) from (elCells_snoc ps (x, _)).symm] at hO6
      go_roundw
      case rel => exact ⟨k + 1, _, by omega, by go_num, htk, hO6, hmem, hB6⟩
      case measure => simp [RowKit.intOf]; omega
    · obtain rfl : k = es.length := by omega
      have F1 : Hid (1 = 1) := rfl
      have hb1 : Below wr.heap.size wr (wr.alloc (.cells #[.int .i64 0, .string spareS, .slice none 0 0, .string ⟨#[]⟩, .int .i64 0] 56)) := (Below.refl _ _).alloc (Nat.le_refl _) _
      have hO1 := ownsRow_below hO hb1
      have hN2 : ∀ j u, (elC ⟨0, spareS, [], ⟨#[]⟩, 0⟩ (.slice none 0 0))[j]? = some u → (wr.alloc (.cells #[.int .i64 0, .string spareS, .slice none 0 0, .string ⟨#[]⟩, .int .i64 0] 56)).cell? ((⟨wr.heap.size, 0, none⟩ : Addr).add j) = some u := World.news_of_block (thn wr _)
      go_wp2_with (at_builtin; clear F1; go_must (refine wpList_append_lies _ rfl _ _ 22 rfl w.heap.size 56 iE zEl 5 72 Tryz.underlying22 hiE hzE hsE hbE rfl (by decide) _ es.length (elCells ps) rfl hO1 ⟨wr.heap.size, 0, none⟩ 1 1 (elC ⟨0, spareS, [], ⟨#[]⟩, 0⟩ (.slice none 0 0)) rfl rfl hN2 (elC_one _ _ _ _) (by decide) (by simp only [maxLen]; omega) (by omega) (Nat.le_trans hB.size hb1.size) _ rfl ?_); intro gn capn w6 hO6 hgr6 hat6 hlt6; have hcap := own_cap hO6 (by omega); have hci : (es.length : Int) ≤ capn := (by omega))
      have hG6 : ∀ y ∈ ps, AGood w6 w.heap.size (some gn) y.1 y.2 := fun y hy => ((hG y hy).below hb1).grown hgr6 hat6
      have hB6 : Below w.heap.size w w6 := hB.trans ((hb1.mono hB.size).trans ((Below.refl _ _).grown hgr6 (Nat.le_trans hB.size hb1.size) (own_ge hO)))
      rw [List.take_length] at hps
      have hpl : ps.length = es.length := by rw [← hps, List.length_map]
      have hcl := World.ownsRow.cells hO6 (g := gn) rfl
      rw [show elCells ps ++ elC ⟨0, spareS, [], ⟨#[]⟩, 0⟩ (.slice none 0 0) = elCells (ps ++ [(⟨0, spareS, [], ⟨#[]⟩, 0⟩, .slice none 0 0)]) from (elCells_snoc ps (⟨0, spareS, [], ⟨#[]⟩, 0⟩, _)).symm] at hcl
      have hget : ∀ (i : Nat) (e : El), es[i]? = some e → ∃ av, (e, av) ∈ ps ∧ ∀ j u, j < 5 → (elC e av)[j]? = some u → w6.cell? ⟨gn, i * 5 + j, none⟩ = some u := by
        intro i e he
        rw [← hps, List.getElem?_map] at he
        cases hp : ps[i]? with
        | none => rw [hp] at he; cases he
        | some y =>
          obtain ⟨e', av⟩ := y
          rw [hp] at he
          cases he
          refine ⟨av, List.mem_of_getElem? hp, fun j u hj hu => ?_⟩
          have hp2 : (ps ++ [((⟨0, spareS, [], ⟨#[]⟩, 0⟩ : El), Value.slice none 0 0)])[i]? = some (e', av) := by rw [List.getElem?_append_left (List.getElem?_eq_some_iff.1 hp).1]; exact hp
          have := hcl (i * 5 + j) u ((elCells_get _ i _ hp2 j hj).trans hu)
          rwa [addr0] at this
      have hspr := hcl (es.length * 5 + 1) _ (elCells_get _ es.length (⟨0, spareS, [], ⟨#[]⟩, 0⟩, .slice none 0 0) (by rw [← hpl]; simp) 1 (by decide))
      rw [addr0] at hspr
      go_ret
      refine ⟨gn, capn, rfl, ⟨⟨fun i e he => ?_⟩, hcap, own_ge hO6 gn rfl, hspr, fun i e he => ?_, ?_⟩, hB6⟩
      · obtain ⟨av, hm, hc⟩ := hget i e he
        have hgd : AGood w6 w.heap.size (some gn) e av := hG6 _ hm
        obtain ⟨ga, ca, rfl, h2, h3, h4, h5, h6, h7⟩ := hgd
        exact ⟨gn, 0, _, _, rfl, hlt6, by rw [Nat.zero_add]; exact hc 0 _ (by decide) rfl, by rw [Nat.zero_add]; exact hc 1 _ (by decide) rfl, by rw [Nat.zero_add]; exact hc 2 _ (by decide) rfl, by rw [Nat.zero_add]; exact hc 3 _ (by decide) rfl, by rw [Nat.zero_add]; exact hc 4 _ (by decide) rfl, h6⟩
      · obtain ⟨av, hm, hc⟩ := hget i e he
        have hgd : AGood w6 w.heap.size (some gn) e av := hG6 _ hm
        obtain ⟨ga, ca, rfl, h2, h3, h4, h5, h6, h7⟩ := hgd
        exact ⟨ga, ca, hc 2 _ (by decide) rfl, h2, h4, h7⟩
      · rcases hO6.2 with ⟨e, _⟩ | ⟨g', cap', cur, e, _, hg', _, _, hs', _⟩
        · cases e
        · injection e with e1 e2 e3
          injection e1 with e1
          injection e1 with e1
          subst e1 e3
          exact ⟨cur, hg', hs'⟩
end Go.Proofs.YtchfphakhmifmaaGreatDoor
namespace Go.Proofs.YtchfphakhmifmaaGreatDoor
open Go.ChangeShapes Go.WideShapes Go.ChangeAt Go.RowKit

set_option maxRecDepth 100000 in
set_option maxHeartbeats 4000000 in
theorem refSame_eq (pa pb : Option Addr) (ca cb : Nat) (es : List El) (w : World) (ha : ERow w pa w.heap.size es) (hb : ERow w pb w.heap.size es) (hl : es.length * 72 ≤ 140737488351232) (ht : ∀ e ∈ es, e.ats.length * 40 ≤ 140737488351232) :
    Calls Tryz.prog 10 #[.slice pa es.length ca, .slice pb es.length cb] w fun e w' => e = .returned (.bool true) ∧ Below w.heap.size w w' := by
  have b0 : ((es.length : Int) == es.length) = true := by simp
  go_enter Tryz.func10, Tryz.ntmps10
  go_wp2_with fail
  go_loopw [5] (fun i wr => ∃ k : Nat, k ≤ es.length ∧ i = .int .i64 k ∧ Below w.heap.size w wr) (fun i _ => es.length - (RowKit.intOf i).toNat)
  case atStart => exact ⟨0, Nat.zero_le _, rfl, Below.refl _ _⟩
  case round =>
    rename World => wo
    obtain ⟨k, hk, rfl, hB⟩ := hrel
    by_cases hlt : k < es.length
    · obtain ⟨x, hx⟩ : ∃ x, es[k]? = some x := ⟨es[k], List.getElem?_eq_getElem hlt⟩
      obtain ⟨g, o, pa1, ca1, rfl, hg, q0, q1, q2, q3, q4, hA⟩ := (ha.below hB).c k x hx
      obtain ⟨g2, o2, pb1, cb1, rfl, hg2, r0, r1, r2, r3, r4, hA2⟩ := (hb.below hB).c k x hx
      have hlt2 : (k : Int) < es.length := by omega
      have hxa := ht x (List.mem_of_getElem? hx)
      have b1 : (x.d == x.d) = true := by simp
      have b2 : ((x.ats.length : Int) == x.ats.length) = true := by simp
      clear hx ht ha hb
      have hg' : g < wo.heap.size := Nat.lt_of_lt_of_le hg hB.size
      have hg2' : g2 < wo.heap.size := Nat.lt_of_lt_of_le hg2 hB.size
      have hb1 : Below wo.heap.size wo (wo.alloc (elO x (.slice pa1 x.ats.length ca1))) := (Below.refl _ _).alloc (Nat.le_refl _) _
      have s0 := (hb1.cell (p := ⟨g2, _, none⟩) hg2').trans r0
      have s1 := (hb1.cell (p := ⟨g2, _, none⟩) hg2').trans r1
      have s2 := (hb1.cell (p := ⟨g2, _, none⟩) hg2').trans r2
      have s3 := (hb1.cell (p := ⟨g2, _, none⟩) hg2').trans r3
      have s4 := (hb1.cell (p := ⟨g2, _, none⟩) hg2').trans r4
      have hb2 : Below wo.heap.size wo ((wo.alloc (elO x (.slice pa1 x.ats.length ca1))).alloc (elO x (.slice pb1 x.ats.length cb1))) := hb1.alloc (by simp) _
      have hX := (((Below.refl _ (wo.alloc (elO x (.slice pa1 x.ats.length ca1)))).alloc (Nat.le_refl _) (elO x (.slice pb1 x.ats.length cb1))).block wo.heap.size (by simp)).trans (thn wo (elO x (.slice pa1 x.ats.length ca1)))
      have hY := thn (wo.alloc (elO x (.slice pa1 x.ats.length ca1))) (elO x (.slice pb1 x.ats.length cb1))
      rw [World.size_alloc] at hY
      obtain ⟨c0, c1, c2, c3, c4, cf⟩ := elO_cell hX
      obtain ⟨d0, d1, d2, d3, d4, df⟩ := elO_cell hY
      generalize hW2 : (wo.alloc (elO x (.slice pa1 x.ats.length ca1))).alloc (elO x (.slice pb1 x.ats.length cb1)) = W2 at *
      have hsz : W2.heap.size = wo.heap.size + 2 := by rw [← hW2]; simp
      have HW2 : Hid ((wo.alloc (elO x (.slice pa1 x.ats.length ca1))).alloc (elO x (.slice pb1 x.ats.length cb1)) = W2) := hW2
      have hA' := ((hA.mono hB.size).below hb2).mono hb2.size
      have hA2' := ((hA2.mono hB.size).below hb2).mono hb2.size
      clear hA hA2
      have hBW : Below w.heap.size w W2 := hB.trans (hb2.mono hB.size)
      go_wp2_with fail
      clear HW2 hW2 q0 q1 q2 q3 q4 r0 r1 r2 r3 r4 s0 s1 s2 s3 s4 hb1 hb2 cf df hX hY c0 c1 c3 c4 d0 d1 d3 d4
      go_loopw [8] (fun i wr => ∃ j : Nat, j ≤ x.ats.length ∧ i = .int .i64 j ∧ Below W2.heap.size W2 wr) (fun i _ => x.ats.length - (RowKit.intOf i).toNat)
      case atStart => exact ⟨0, Nat.zero_le _, rfl, Below.refl _ _⟩
      case round =>
        obtain ⟨j, hj, rfl, hBi⟩ := hrel
        have c2' := (hBi.cell (p := ⟨wo.heap.size, 2, none⟩) (by show wo.heap.size < _; omega)).trans c2
        have d2' := (hBi.cell (p := ⟨wo.heap.size + 1, 2, none⟩) (by show wo.heap.size + 1 < _; omega)).trans d2
        by_cases hjl : j < x.ats.length
        · obtain ⟨y, hy⟩ : ∃ y, x.ats[j]? = some y := ⟨x.ats[j], List.getElem?_eq_getElem hjl⟩
          obtain ⟨ga, oa, rfl, _, m0, m1, m2⟩ := (hA'.below hBi).c j y hy
          obtain ⟨gb, ob, rfl, _, n0, n1, n2⟩ := (hA2'.below hBi).c j y hy
          have hjl2 : (j : Int) < x.ats.length := by omega
          clear hy
          go_wp2_with fail
          go_quiet (fail)
          go_wp2_with fail
          go_roundw
          case rel => exact ⟨j + 1, by omega, by go_num, tdr hBi⟩
          case measure => simp [RowKit.intOf]; omega
        · obtain rfl : j = x.ats.length := by omega
          go_wp2_with fail
          go_roundw
          case rel => exact ⟨k + 1, by omega, by go_num, hBW.trans (hBi.mono hBW.size)⟩
          case measure => simp [RowKit.intOf]; omega
    · obtain rfl : k = es.length := by omega
      go_wp2_with fail
      go_ret
      exact ⟨rfl, hB⟩
set_option maxRecDepth 100000 in
set_option maxHeartbeats 4000000 in
theorem sameElems_eq (pa pb : Option Addr) (ca cb : Nat) (es : List El) (w : World) (ha : ERow w pa w.heap.size es) (hb : ERow w pb w.heap.size es) (hl : es.length * 72 ≤ 140737488351232) (ht : ∀ e ∈ es, e.ats.length * 40 ≤ 140737488351232) :
    Calls Tryz.prog 31 #[.slice pa es.length ca, .slice pb es.length cb] w fun e w' => e = .returned (.bool true) ∧ Below w.heap.size w w' := by
  have hS := refSame_eq pa pb ca cb es w ha hb hl ht
  go_enter Tryz.func31, Tryz.ntmps31
  go_wp2_with (go_at_call 10; refine hS.mono ?_; rintro e w1 ⟨rfl, hB1⟩)
  go_loopw [5] (fun i wr => ∃ k : Nat, k ≤ es.length ∧ i = .int .i64 k ∧ Below w.heap.size w wr) (fun i _ => es.length - (RowKit.intOf i).toNat)
  case atStart => exact ⟨0, Nat.zero_le _, rfl, hB1⟩
  case round =>
    rename World => wo
    obtain ⟨k, hk, rfl, hB⟩ := hrel
    by_cases hlt : k < es.length
    · obtain ⟨x, hx⟩ : ∃ x, es[k]? = some x := ⟨es[k], List.getElem?_eq_getElem hlt⟩
      obtain ⟨g, o, pa1, ca1, rfl, hg, q0, q1, q2, q3, q4, hA⟩ := (ha.below hB).c k x hx
      obtain ⟨g2, o2, pb1, cb1, rfl, hg2, r0, r1, r2, r3, r4, hA2⟩ := (hb.below hB).c k x hx
      have hlt2 : (k : Int) < es.length := by omega
      have hxa := ht x (List.mem_of_getElem? hx)
      have hA' := hA.mono hB.size
      have hA2' := hA2.mono hB.size
      have hg' : g < wo.heap.size := Nat.lt_of_lt_of_le hg hB.size
      have hg2' : g2 < wo.heap.size := Nat.lt_of_lt_of_le hg2 hB.size
      clear hx ht ha hb hS hA hA2 q0 q1 q3 r0 r1 r3
      go_wp2_with fail
      go_quiet (fail)
      go_wp2_with fail
      go_loopw [6] (fun i wr => ∃ j : Nat, j ≤ x.ats.length ∧ i = .int .i64 j ∧ Below wo.heap.size wo wr) (fun i _ => x.ats.length - (RowKit.intOf i).toNat)
      case atStart => exact ⟨0, Nat.zero_le _, rfl, tdr (Below.refl _ _)⟩
      case round =>
        obtain ⟨j, hj, rfl, hBi⟩ := hrel
        have c2' := (hBi.cell (p := ⟨g, _, none⟩) hg').trans q2
        have d2' := (hBi.cell (p := ⟨g2, _, none⟩) hg2').trans r2
        by_cases hjl : j < x.ats.length
        · obtain ⟨y, hy⟩ : ∃ y, x.ats[j]? = some y := ⟨x.ats[j], List.getElem?_eq_getElem hjl⟩
          obtain ⟨ga, oa, rfl, _, m0, m1, m2⟩ := (hA'.below hBi).c j y hy
          obtain ⟨gb, ob, rfl, _, n0, n1, n2⟩ := (hA2'.below hBi).c j y hy
          have hjl2 : (j : Int) < x.ats.length := by omega
          clear hy
          go_wp2_with fail
          go_quiet (fail)
          go_wp2_with fail
          go_roundw
          case rel => exact ⟨j + 1, by omega, by go_num, tdr hBi⟩
          case measure => simp [RowKit.intOf]; omega
        · obtain rfl : j = x.ats.length := by omega
          go_wp2_with fail
          go_roundw
          case rel => exact ⟨k + 1, by omega, by go_num, hB.trans (hBi.mono hB.size)⟩
          case measure => simp [RowKit.intOf]; omega
    · obtain rfl : k = es.length := by omega
      go_wp2_with fail
      go_ret
      exact ⟨rfl, hB⟩
end Go.Proofs.YtchfphakhmifmaaGreatDoor
namespace Go.Proofs.YtchfphakhmifmaaGreatDoor
open Go.ChangeShapes Go.WideShapes Go.ChangeAt Go.RowKit

set_option maxRecDepth 100000 in
set_option maxHeartbeats 4000000 in
theorem untouched_any (pb : Option Addr) (base g cap cb : Nat) (es : List El) (w : World) (ha : CRow w base g cap es) (hb : ERow w pb w.heap.size es) (hl : es.length * 72 ≤ 140737488351232) (ht : ∀ e ∈ es, e.ats.length * 40 ≤ 140737488351232) :
    Calls Tryz.prog 16 #[.slice (some ⟨g, 0, none⟩) es.length cap, .slice pb es.length cb] w fun e w' => e = .returned (.bool true) ∧ Below w.heap.size w w' := by
  have hS := sameElems_eq (some ⟨g, 0, none⟩) pb cap cb es w ha.er hb hl ht
  have hroom := ha.room
  have hr2 : (es.length : Int) + 1 ≤ cap := by omega
  have hF : Hid (1 = 1) := rfl
  go_enter Tryz.func16, Tryz.ntmps16
  go_wp2_with (go_at_call 31; refine hS.mono ?_; rintro e w1 ⟨rfl, hB1⟩; have hC1 := ha.below hB1; have hsp := hC1.sp)
  go_loopw [6] (fun i wr => ∃ k : Nat, k ≤ es.length ∧ i = .int .i64 k ∧ Below w.heap.size w wr) (fun i _ => es.length - (RowKit.intOf i).toNat)
  case atStart => exact ⟨0, Nat.zero_le _, rfl, hB1⟩
  case round =>
    obtain ⟨k, hk, rfl, hB⟩ := hrel
    by_cases hlt : k < es.length
    · obtain ⟨x, hx⟩ : ∃ x, es[k]? = some x := ⟨es[k], List.getElem?_eq_getElem hlt⟩
      obtain ⟨g2, o2, pb1, cb1, rfl, hg2, r0, r1, r2, r3, r4, hA2⟩ := (hb.below hB).c k x hx
      obtain ⟨ga, ca, m2, hca, hga, ms⟩ := (ha.below hB).at_ k x hx
      have hlt2 : (k : Int) < es.length := by omega
      have hxa := ht x (List.mem_of_getElem? hx)
      have hca2 : (x.ats.length : Int) + 1 ≤ ca := by omega
      clear hx ht ha hb hS hA2 r0 r1 r3 r4 hC1
      go_wp2_with fail
      go_roundw
      case rel => exact ⟨k + 1, by omega, by go_num, hB⟩
      case measure => simp [RowKit.intOf]; omega
    · obtain rfl : k = es.length := by omega
      go_wp2_with fail
      go_ret
      exact ⟨rfl, hB⟩
end Go.Proofs.YtchfphakhmifmaaGreatDoor
namespace Go.Proofs.YtchfphakhmifmaaGreatDoor
open Go.ChangeShapes Go.WideShapes Go.ChangeAt Go.RowKit Go.Lib

theorem Hid.mkS {p : Prop} (h : p) : Hid p := h
abbrev attW (a : Att) : Value := .agg #[.string a.nm, .string a.vl, .int .i64 a.p]
def sameA (a b : Att) : Bool := decide (a.nm = b.nm) && decide (a.vl = b.vl)
def sameAs : List Att → List Att → Bool
  | [], [] => true
  | a :: r, b :: s => sameA a b && sameAs r s
  | _, _ => false
def sameE (a b : El) : Bool := decide (a.d = b.d) && (decide (a.nm = b.nm) && (decide (a.tx = b.tx) && sameAs a.ats b.ats))
def sameEs : List El → List El → Bool
  | [], [] => true
  | a :: r, b :: s => sameE a b && sameEs r s
  | _, _ => false
theorem sameAs_len : ∀ {l m : List Att}, sameAs l m = true → l.length = m.length
  | [], [], _ => rfl
  | a :: r, b :: s, h => by
    unfold sameAs at h
    rw [Bool.and_eq_true] at h
    rw [List.length_cons, List.length_cons, sameAs_len h.2]
  | [], _ :: _, h => by cases h
  | _ :: _, [], h => by cases h
theorem sameEs_len : ∀ {l m : List El}, sameEs l m = true → l.length = m.length
  | [], [], _ => rfl
  | a :: r, b :: s, h => by
    unfold sameEs at h
    rw [Bool.and_eq_true] at h
    rw [List.length_cons, List.length_cons, sameEs_len h.2]
  | [], _ :: _, h => by cases h
  | _ :: _, [], h => by cases h
theorem sameAs_drop {l m : List Att} {j : Nat} {a b : Att} (ha : l[j]? = some a) (hb : m[j]? = some b) : sameAs (l.drop j) (m.drop j) = (sameA a b && sameAs (l.drop (j + 1)) (m.drop (j + 1))) := by
  obtain ⟨h1, e1⟩ := List.getElem?_eq_some_iff.1 ha
  obtain ⟨h2, e2⟩ := List.getElem?_eq_some_iff.1 hb
  rw [List.drop_eq_getElem_cons h1, List.drop_eq_getElem_cons h2, e1, e2, sameAs]
theorem sameEs_drop {l m : List El} {j : Nat} {a b : El} (ha : l[j]? = some a) (hb : m[j]? = some b) : sameEs (l.drop j) (m.drop j) = (sameE a b && sameEs (l.drop (j + 1)) (m.drop (j + 1))) := by
  obtain ⟨h1, e1⟩ := List.getElem?_eq_some_iff.1 ha
  obtain ⟨h2, e2⟩ := List.getElem?_eq_some_iff.1 hb
  rw [List.drop_eq_getElem_cons h1, List.drop_eq_getElem_cons h2, e1, e2, sameEs]
abbrev attO (a : Att) : Obj := .cells #[.string a.nm, .string a.vl, .int .i64 a.p] 58
theorem two_1 (w : World) (A B : Obj) : ((w.alloc A).alloc B).heap[w.heap.size]? = some A := by
  show ((w.heap.push A).push B)[w.heap.size]? = _
  rw [Array.getElem?_push, if_neg (by simp), Array.getElem?_push, if_pos rfl]
theorem two_2 (w : World) (A B : Obj) : ((w.alloc A).alloc B).heap[w.heap.size + 1]? = some B := by
  show ((w.heap.push A).push B)[w.heap.size + 1]? = _
  rw [Array.getElem?_push, if_pos (by simp)]
theorem two_b (w : World) (A B : Obj) : Below w.heap.size w ((w.alloc A).alloc B) := (bel1 w A).alloc (by simp) B
theorem sameAttr_any (a b : Att) (w : World) : Calls Tryz.prog 54 #[attW a, attW b] w fun e w' => e = .returned (.bool (sameA a b)) ∧ Below w.heap.size w w' := by
  have HB := Hid.mkS (two_b w (attO a) (attO b))
  have hA := two_1 w (attO a) (attO b)
  have hB := two_2 w (attO a) (attO b)
  have a0 : ((w.alloc (attO a)).alloc (attO b)).cell? ⟨w.heap.size, 0, none⟩ = some (.string a.nm) := by simp only [World.cell?, hA]; rfl
  have a1 : ((w.alloc (attO a)).alloc (attO b)).cell? ⟨w.heap.size, 1, none⟩ = some (.string a.vl) := by simp only [World.cell?, hA]; rfl
  have b0 : ((w.alloc (attO a)).alloc (attO b)).cell? ⟨w.heap.size + 1, 0, none⟩ = some (.string b.nm) := by simp only [World.cell?, hB]; rfl
  have b1 : ((w.alloc (attO a)).alloc (attO b)).cell? ⟨w.heap.size + 1, 1, none⟩ = some (.string b.vl) := by simp only [World.cell?, hB]; rfl
  clear hA hB
  obtain ⟨n1, v1, p1⟩ := a
  obtain ⟨n2, v2, p2⟩ := b
  simp only [sameA] at a0 a1 b0 b1 ⊢
  by_cases h : n1 = n2
  · subst h
    by_cases h2 : v1 = v2
    · subst h2
      go_enter Tryz.func54, Tryz.ntmps54
      go_wp2_with fail
      go_ret
      exact ⟨by simp, HB.out⟩
    · have z2 := beq_ba h2
      go_enter Tryz.func54, Tryz.ntmps54
      go_wp2_with fail
      go_ret
      exact ⟨by simp [h2], HB.out⟩
  · have z := beq_ba h
    go_enter Tryz.func54, Tryz.ntmps54
    go_wp2_with fail
    go_ret
    exact ⟨by simp [h], HB.out⟩
set_option maxRecDepth 100000 in
set_option maxHeartbeats 4000000 in
theorem eqAttrs_any (l m : List Att) (pa pb : Option Addr) (ca cb : Nat) (w : World) (ha : ARow w pa w.heap.size l) (hb : ARow w pb w.heap.size m) (hl : l.length ≤ 100000000) :
    Calls Tryz.prog 53 #[.slice pa l.length ca, .slice pb m.length cb, .func (.func 54) #[] #[]] w fun e w' => e = .returned (.bool (sameAs l m)) ∧ Below w.heap.size w w' := by
  by_cases hlm : l.length = m.length
  · have b0 : ((l.length : Int) == (m.length : Int)) = true := by simp [hlm]
    have b1 : ((l.length : Int) != (m.length : Int)) = false := by rw [bne, b0]; rfl
    have HL := Hid.mkS hlm
    clear hlm
    go_enter Tryz.func53, Tryz.ntmps53
    go_wp2_with fail
    clear b0 b1
    go_loopw [7, 17] (fun i7 i wr => ∃ j : Nat, j ≤ l.length ∧ i = .int .i64 j ∧ Below w.heap.size w wr ∧ Hid (sameAs l m = sameAs (l.drop j) (m.drop j)) ∧ i7 = i7) (fun _ i _ => l.length - (RowKit.intOf i).toNat)
    case atStart => exact ⟨0, Nat.zero_le _, rfl, Below.refl _ _, Hid.mkS rfl, rfl⟩
    case round =>
      obtain ⟨j, hj, rfl, hB, hq, -⟩ := hrel
      by_cases hlt : j < l.length
      · obtain ⟨a, hx⟩ : ∃ a, l[j]? = some a := ⟨l[j], List.getElem?_eq_getElem hlt⟩
        obtain ⟨b, hy⟩ : ∃ b, m[j]? = some b := ⟨m[j]'(by have := HL.out; omega), List.getElem?_eq_getElem (by have := HL.out; omega)⟩
        obtain ⟨g, o, rfl, hg, q0, q1, q2⟩ := ha.c j a hx
        obtain ⟨g2, o2, rfl, hg2, k0, k1, k2⟩ := hb.c j b hy
        have hg' : g2 < wr.heap.size := Nat.lt_of_lt_of_le hg2 hB.size
        have r0 := (hB.cell (p := ⟨g, _, none⟩) hg).trans q0
        have r1 := (hB.cell (p := ⟨g, _, none⟩) hg).trans q1
        have r2 := (hB.cell (p := ⟨g, _, none⟩) hg).trans q2
        have s0 := ((bel1 wr (attO a)).cell (p := ⟨g2, _, none⟩) hg').trans ((hB.cell (p := ⟨g2, _, none⟩) hg2).trans k0)
        have s1 := ((bel1 wr (attO a)).cell (p := ⟨g2, _, none⟩) hg').trans ((hB.cell (p := ⟨g2, _, none⟩) hg2).trans k1)
        have s2 := ((bel1 wr (attO a)).cell (p := ⟨g2, _, none⟩) hg').trans ((hB.cell (p := ⟨g2, _, none⟩) hg2).trans k2)
        have c := sameAttr_any a b ((wr.alloc (attO a)).alloc (attO b))
        have HT := Hid.mkS (hB.trans ((two_b wr (attO a) (attO b)).mono hB.size))
        have hlti : (j : Int) < l.length := by omega
        have hltm : (j : Int) < m.length := by have := HL.out; omega
        have hd := sameAs_drop hx hy
        clear q0 q1 q2 k0 k1 k2 ha hb hx hy
        obtain ⟨n1, v1, p1⟩ := a
        obtain ⟨n2, v2, p2⟩ := b
        simp only at r0 r1 r2 s0 s1 s2 c HT
        cases hs : sameA ⟨n1, v1, p1⟩ ⟨n2, v2, p2⟩
        · rw [hs] at c hd
          have HX : Hid (sameAs l m = false) := Hid.mkS (by rw [hq.out, hd]; rfl)
          clear hs hd hq
          go_wp2_with fail
          refine c.mono ?_
          rintro e w1 ⟨rfl, hb1⟩
          go_wp2_with fail
          go_ret
          exact ⟨by rw [HX.out]; rfl, HT.out.trans (hb1.mono HT.out.size)⟩
        · rw [hs] at c hd
          have HX : Hid (sameAs l m = sameAs (l.drop (j + 1)) (m.drop (j + 1))) := Hid.mkS (by rw [hq.out, hd]; rfl)
          clear hs hd hq
          go_wp2_with fail
          refine c.mono ?_
          rintro e w1 ⟨rfl, hb1⟩
          go_wp2_with fail
          go_roundw
          case rel => exact ⟨j + 1, by omega, by go_num, HT.out.trans (hb1.mono HT.out.size), HX, trivial⟩
          case measure => simp [RowKit.intOf]; omega
      · obtain rfl : j = l.length := by omega
        have HX : Hid (sameAs l m = true) := Hid.mkS (by rw [hq.out, List.drop_length, HL.out, List.drop_length]; rfl)
        clear hq
        go_wp2_with fail
        go_ret
        exact ⟨by rw [HX.out]; rfl, hB⟩
  · have hs : sameAs l m = false := by
      cases h : sameAs l m
      · rfl
      · exact absurd (sameAs_len h) hlm
    have b0 : ((l.length : Int) == (m.length : Int)) = false := beq_eq_false_iff_ne.2 (by omega)
    have b1 : ((l.length : Int) != (m.length : Int)) = true := by rw [bne, b0]; rfl
    rw [hs]
    go_enter Tryz.func53, Tryz.ntmps53
    go_wp2_with fail
    go_ret
    exact ⟨rfl, Below.refl _ _⟩
end Go.Proofs.YtchfphakhmifmaaGreatDoor
namespace Go.Proofs.YtchfphakhmifmaaGreatDoor
open Go.ChangeShapes Go.WideShapes Go.ChangeAt Go.RowKit Go.Lib

abbrev elW (e : El) (v : Value) : Value := .agg #[.int .i64 e.d, .string e.nm, v, .string e.tx, .int .i64 e.p]
abbrev elB (e : El) (v : Value) : Obj := .cells #[.int .i64 e.d, .string e.nm, v, .string e.tx, .int .i64 e.p] 56
set_option maxRecDepth 100000 in
set_option maxHeartbeats 4000000 in
theorem sameElem_any (a b : El) (pa pb : Option Addr) (ca cb : Nat) (w : World) (ha : ARow w pa w.heap.size a.ats) (hb : ARow w pb w.heap.size b.ats) (hl : a.ats.length ≤ 100000000) :
    Calls Tryz.prog 30 #[elW a (.slice pa a.ats.length ca), elW b (.slice pb b.ats.length cb)] w fun e w' => e = .returned (.bool (sameE a b)) ∧ Below w.heap.size w w' := by
  have HB := Hid.mkS (two_b w (elB a (.slice pa a.ats.length ca)) (elB b (.slice pb b.ats.length cb)))
  have hA := two_1 w (elB a (.slice pa a.ats.length ca)) (elB b (.slice pb b.ats.length cb))
  have hB := two_2 w (elB a (.slice pa a.ats.length ca)) (elB b (.slice pb b.ats.length cb))
  have c := eqAttrs_any a.ats b.ats pa pb ca cb _ ((ha.below HB.out).mono HB.out.size) ((hb.below HB.out).mono HB.out.size) hl
  generalize hW : (w.alloc (elB a (.slice pa a.ats.length ca))).alloc (elB b (.slice pb b.ats.length cb)) = W at HB hA hB c
  have a0 : W.cell? ⟨w.heap.size, 0, none⟩ = some (.int .i64 a.d) := by simp only [World.cell?, hA]; rfl
  have a1 : W.cell? ⟨w.heap.size, 1, none⟩ = some (.string a.nm) := by simp only [World.cell?, hA]; rfl
  have a2 : W.cell? ⟨w.heap.size, 2, none⟩ = some (.slice pa a.ats.length ca) := by simp only [World.cell?, hA]; rfl
  have a3 : W.cell? ⟨w.heap.size, 3, none⟩ = some (.string a.tx) := by simp only [World.cell?, hA]; rfl
  have b0 : W.cell? ⟨w.heap.size + 1, 0, none⟩ = some (.int .i64 b.d) := by simp only [World.cell?, hB]; rfl
  have b1 : W.cell? ⟨w.heap.size + 1, 1, none⟩ = some (.string b.nm) := by simp only [World.cell?, hB]; rfl
  have b2 : W.cell? ⟨w.heap.size + 1, 2, none⟩ = some (.slice pb b.ats.length cb) := by simp only [World.cell?, hB]; rfl
  have b3 : W.cell? ⟨w.heap.size + 1, 3, none⟩ = some (.string b.tx) := by simp only [World.cell?, hB]; rfl
  clear hA hB ha hb
  obtain ⟨d1, n1, l1, t1, p1⟩ := a
  obtain ⟨d2, n2, l2, t2, p2⟩ := b
  simp only [sameE] at a0 a1 a2 a3 b0 b1 b2 b3 c hW hl ⊢
  by_cases h : d1 = d2
  · subst h
    have z0 : (d1 == d1) = true := by simp
    by_cases h2 : n1 = n2
    · subst h2
      by_cases h3 : t1 = t2
      · subst h3
        generalize sameAs l1 l2 = R at c ⊢
        go_enter Tryz.func30, Tryz.ntmps30
        go_wp2_with (go_at_call 53; refine c.mono ?_; rintro _ w1 ⟨rfl, hb1⟩)
        go_ret
        exact ⟨by simp, HB.out.trans (hb1.mono HB.out.size)⟩
      · have z2 := beq_ba h3
        clear c
        go_enter Tryz.func30, Tryz.ntmps30
        go_wp2_with fail
        go_ret
        exact ⟨by simp [h3], HB.out⟩
    · have z2 := beq_ba h2
      clear c
      go_enter Tryz.func30, Tryz.ntmps30
      go_wp2_with fail
      go_ret
      exact ⟨by simp [h2], HB.out⟩
  · have z : (d1 == d2) = false := beq_eq_false_iff_ne.2 h
    clear c
    go_enter Tryz.func30, Tryz.ntmps30
    go_wp2_with fail
    go_ret
    exact ⟨by simp [h], HB.out⟩
set_option maxRecDepth 100000 in
set_option maxHeartbeats 4000000 in
theorem eqElems_any (l m : List El) (pa pb : Option Addr) (ca cb : Nat) (w : World) (ha : ERow w pa w.heap.size l) (hb : ERow w pb w.heap.size m) (hl : l.length ≤ 100000000) (hz : ∀ a ∈ l, a.ats.length ≤ 100000000) :
    Calls Tryz.prog 29 #[.slice pa l.length ca, .slice pb m.length cb, .func (.func 30) #[] #[]] w fun e w' => e = .returned (.bool (sameEs l m)) ∧ Below w.heap.size w w' := by
  by_cases hlm : l.length = m.length
  · have b0 : ((l.length : Int) == (m.length : Int)) = true := by simp [hlm]
    have b1 : ((l.length : Int) != (m.length : Int)) = false := by rw [bne, b0]; rfl
    have HL := Hid.mkS hlm
    clear hlm
    go_enter Tryz.func29, Tryz.ntmps29
    go_wp2_with fail
    clear b0 b1
    go_loopw [7, 17] (fun i7 i wr => ∃ j : Nat, j ≤ l.length ∧ i = .int .i64 j ∧ Below w.heap.size w wr ∧ Hid (sameEs l m = sameEs (l.drop j) (m.drop j)) ∧ i7 = i7) (fun _ i _ => l.length - (RowKit.intOf i).toNat)
    case atStart => exact ⟨0, Nat.zero_le _, rfl, Below.refl _ _, Hid.mkS rfl, rfl⟩
    case round =>
      obtain ⟨j, hj, rfl, hB, hq, -⟩ := hrel
      by_cases hlt : j < l.length
      · obtain ⟨a, hx⟩ : ∃ a, l[j]? = some a := ⟨l[j], List.getElem?_eq_getElem hlt⟩
        obtain ⟨b, hy⟩ : ∃ b, m[j]? = some b := ⟨m[j]'(by have := HL.out; omega), List.getElem?_eq_getElem (by have := HL.out; omega)⟩
        obtain ⟨g, o, pa1, ca1, rfl, hg, q0, q1, q2, q3, q4, hA1⟩ := ha.c j a hx
        obtain ⟨g2, o2, pb1, cb1, rfl, hg2, k0, k1, k2, k3, k4, hA2⟩ := hb.c j b hy
        have hg' : g2 < wr.heap.size := Nat.lt_of_lt_of_le hg2 hB.size
        have r0 := (hB.cell (p := ⟨g, _, none⟩) hg).trans q0
        have r1 := (hB.cell (p := ⟨g, _, none⟩) hg).trans q1
        have r2 := (hB.cell (p := ⟨g, _, none⟩) hg).trans q2
        have r3 := (hB.cell (p := ⟨g, _, none⟩) hg).trans q3
        have r4 := (hB.cell (p := ⟨g, _, none⟩) hg).trans q4
        have s0 := ((bel1 wr (elB a (.slice pa1 a.ats.length ca1))).cell (p := ⟨g2, _, none⟩) hg').trans ((hB.cell (p := ⟨g2, _, none⟩) hg2).trans k0)
        have s1 := ((bel1 wr (elB a (.slice pa1 a.ats.length ca1))).cell (p := ⟨g2, _, none⟩) hg').trans ((hB.cell (p := ⟨g2, _, none⟩) hg2).trans k1)
        have s2 := ((bel1 wr (elB a (.slice pa1 a.ats.length ca1))).cell (p := ⟨g2, _, none⟩) hg').trans ((hB.cell (p := ⟨g2, _, none⟩) hg2).trans k2)
        have s3 := ((bel1 wr (elB a (.slice pa1 a.ats.length ca1))).cell (p := ⟨g2, _, none⟩) hg').trans ((hB.cell (p := ⟨g2, _, none⟩) hg2).trans k3)
        have s4 := ((bel1 wr (elB a (.slice pa1 a.ats.length ca1))).cell (p := ⟨g2, _, none⟩) hg').trans ((hB.cell (p := ⟨g2, _, none⟩) hg2).trans k4)
        have HW : ∀ {p : Option Addr} {z : List Att}, ARow w p w.heap.size z → ARow ((wr.alloc (elB a (.slice pa1 a.ats.length ca1))).alloc (elB b (.slice pb1 b.ats.length cb1))) p ((wr.alloc (elB a (.slice pa1 a.ats.length ca1))).alloc (elB b (.slice pb1 b.ats.length cb1))).heap.size z := fun h => ((h.below (hB.trans ((two_b wr _ _).mono hB.size))).mono (hB.trans ((two_b wr _ _).mono hB.size)).size)
        have c := sameElem_any a b pa1 pb1 ca1 cb1 ((wr.alloc (elB a (.slice pa1 a.ats.length ca1))).alloc (elB b (.slice pb1 b.ats.length cb1))) (HW hA1) (HW hA2) (hz a (List.mem_of_getElem? hx))
        have HT := Hid.mkS (hB.trans ((two_b wr (elB a (.slice pa1 a.ats.length ca1)) (elB b (.slice pb1 b.ats.length cb1))).mono hB.size))
        have hlti : (j : Int) < l.length := by omega
        have hltm : (j : Int) < m.length := by have := HL.out; omega
        have hd := sameEs_drop hx hy
        clear q0 q1 q2 q3 q4 k0 k1 k2 k3 k4 ha hb hx hy hA1 hA2 HW hz
        obtain ⟨d1, n1, l1, t1, p1⟩ := a
        obtain ⟨d2, n2, l2, t2, p2⟩ := b
        simp only at r0 r1 r2 r3 r4 s0 s1 s2 s3 s4 c HT
        cases hs : sameE ⟨d1, n1, l1, t1, p1⟩ ⟨d2, n2, l2, t2, p2⟩
        · rw [hs] at c hd
          have HX : Hid (sameEs l m = false) := Hid.mkS (by rw [hq.out, hd]; rfl)
          clear hs hd hq
          go_wp2_with fail
          refine c.mono ?_
          rintro e w1 ⟨rfl, hb1⟩
          go_wp2_with fail
          go_ret
          exact ⟨by rw [HX.out]; rfl, HT.out.trans (hb1.mono HT.out.size)⟩
        · rw [hs] at c hd
          have HX : Hid (sameEs l m = sameEs (l.drop (j + 1)) (m.drop (j + 1))) := Hid.mkS (by rw [hq.out, hd]; rfl)
          clear hs hd hq
          go_wp2_with fail
          refine c.mono ?_
          rintro e w1 ⟨rfl, hb1⟩
          go_wp2_with fail
          go_roundw
          case rel => exact ⟨j + 1, by omega, by go_num, HT.out.trans (hb1.mono HT.out.size), HX, trivial⟩
          case measure => simp [RowKit.intOf]; omega
      · obtain rfl : j = l.length := by omega
        have HX : Hid (sameEs l m = true) := Hid.mkS (by rw [hq.out, List.drop_length, HL.out, List.drop_length]; rfl)
        clear hq
        go_wp2_with fail
        go_ret
        exact ⟨by rw [HX.out]; rfl, hB⟩
  · have hs : sameEs l m = false := by
      cases h : sameEs l m
      · rfl
      · exact absurd (sameEs_len h) hlm
    have b0 : ((l.length : Int) == (m.length : Int)) = false := beq_eq_false_iff_ne.2 (by omega)
    have b1 : ((l.length : Int) != (m.length : Int)) = true := by rw [bne, b0]; rfl
    rw [hs]
    go_enter Tryz.func29, Tryz.ntmps29
    go_wp2_with fail
    go_ret
    exact ⟨rfl, Below.refl _ _⟩
theorem Same_any (l m : List El) (pa pb : Option Addr) (ca cb : Nat) (w : World) (ha : ERow w pa w.heap.size l) (hb : ERow w pb w.heap.size m) (hl : l.length ≤ 100000000) (hz : ∀ a ∈ l, a.ats.length ≤ 100000000) :
    Calls Tryz.prog 15 #[.slice pa l.length ca, .slice pb m.length cb] w fun e w' => e = .returned (.bool (sameEs l m)) ∧ Below w.heap.size w w' := by
  have c := eqElems_any l m pa pb ca cb w ha hb hl hz
  go_enter Tryz.func15, Tryz.ntmps15
  go_wp2_with (go_at_call 29; refine c.mono ?_; rintro _ w1 ⟨rfl, hb1⟩)
  go_ret
  exact ⟨rfl, hb1⟩
end Go.Proofs.YtchfphakhmifmaaGreatDoor
namespace Go.Proofs.YtchfphakhmifmaaGreatDoor
open Go.ChangeShapes Go.WideShapes Go.ChangeAt Go.RowKit Go.Lib

theorem bne_ba {a b : ByteArray} (h : a ≠ b) : (a.toList != b.toList) = true := by rw [bne, beq_ba h]; rfl
theorem bne_self_ba (a : ByteArray) : (a.toList != a.toList) = false := by simp
set_option maxRecDepth 100000 in
set_option maxHeartbeats 8000000 in
theorem refSame_any (l m : List El) (pa pb : Option Addr) (ca cb : Nat) (w : World) (ha : ERow w pa w.heap.size l) (hb : ERow w pb w.heap.size m) (hl : l.length ≤ 100000000) (hz : ∀ a ∈ l, a.ats.length ≤ 100000000) :
    Calls Tryz.prog 10 #[.slice pa l.length ca, .slice pb m.length cb] w fun e w' => e = .returned (.bool (sameEs l m)) ∧ Below w.heap.size w w' := by
  by_cases hlm : l.length = m.length
  · have b0 : ((l.length : Int) == (m.length : Int)) = true := by simp [hlm]
    have b1 : ((l.length : Int) != (m.length : Int)) = false := by rw [bne, b0]; rfl
    have HL := Hid.mkS hlm
    clear hlm
    go_enter Tryz.func10, Tryz.ntmps10
    go_wp2_with fail
    clear b0 b1
    go_loopw [5] (fun i wr => ∃ k : Nat, k ≤ l.length ∧ i = .int .i64 k ∧ Below w.heap.size w wr ∧ Hid (sameEs l m = sameEs (l.drop k) (m.drop k))) (fun i _ => l.length - (RowKit.intOf i).toNat)
    case atStart => exact ⟨0, Nat.zero_le _, rfl, Below.refl _ _, Hid.mkS rfl⟩
    case round =>
      rename World => wo
      obtain ⟨k, hk, rfl, hB, hq⟩ := hrel
      by_cases hlt : k < l.length
      · obtain ⟨x, hx⟩ : ∃ x, l[k]? = some x := ⟨l[k], List.getElem?_eq_getElem hlt⟩
        obtain ⟨y, hy⟩ : ∃ y, m[k]? = some y := ⟨m[k]'(by have := HL.out; omega), List.getElem?_eq_getElem (by have := HL.out; omega)⟩
        obtain ⟨g, o, pa1, ca1, rfl, hg, q0, q1, q2, q3, q4, hA⟩ := (ha.below hB).c k x hx
        obtain ⟨g2, o2, pb1, cb1, rfl, hg2, r0, r1, r2, r3, r4, hA2⟩ := (hb.below hB).c k y hy
        have hlt2 : (k : Int) < l.length := by omega
        have hlt3 : (k : Int) < m.length := by have := HL.out; omega
        have hxa := hz x (List.mem_of_getElem? hx)
        have hd := sameEs_drop hx hy
        clear hx hy hz ha hb
        have hg' : g < wo.heap.size := Nat.lt_of_lt_of_le hg hB.size
        have hg2' : g2 < wo.heap.size := Nat.lt_of_lt_of_le hg2 hB.size
        have hb1 : Below wo.heap.size wo (wo.alloc (elO x (.slice pa1 x.ats.length ca1))) := (Below.refl _ _).alloc (Nat.le_refl _) _
        have s0 := (hb1.cell (p := ⟨g2, _, none⟩) hg2').trans r0
        have s1 := (hb1.cell (p := ⟨g2, _, none⟩) hg2').trans r1
        have s2 := (hb1.cell (p := ⟨g2, _, none⟩) hg2').trans r2
        have s3 := (hb1.cell (p := ⟨g2, _, none⟩) hg2').trans r3
        have s4 := (hb1.cell (p := ⟨g2, _, none⟩) hg2').trans r4
        have hb2 : Below wo.heap.size wo ((wo.alloc (elO x (.slice pa1 x.ats.length ca1))).alloc (elO y (.slice pb1 y.ats.length cb1))) := hb1.alloc (by simp) _
        have hX := two_1 wo (elO x (.slice pa1 x.ats.length ca1)) (elO y (.slice pb1 y.ats.length cb1))
        have hY := two_2 wo (elO x (.slice pa1 x.ats.length ca1)) (elO y (.slice pb1 y.ats.length cb1))
        obtain ⟨c0, c1, c2, c3, c4, cf⟩ := elO_cell hX
        obtain ⟨d0, d1, d2, d3, d4, df⟩ := elO_cell hY
        generalize hW2 : (wo.alloc (elO x (.slice pa1 x.ats.length ca1))).alloc (elO y (.slice pb1 y.ats.length cb1)) = W2 at *
        have hsz : W2.heap.size = wo.heap.size + 2 := by rw [← hW2]; simp
        have hA' := ((hA.mono hB.size).below hb2).mono hb2.size
        have hA2' := ((hA2.mono hB.size).below hb2).mono hb2.size
        clear hA hA2
        have hBW : Below w.heap.size w W2 := hB.trans (hb2.mono hB.size)
        have HBW := Hid.mkS hBW
        obtain ⟨xd, xn, xa, xt, xp⟩ := x
        obtain ⟨yd, yn, ya, yt, yp⟩ := y
        simp only at q0 q1 q2 q3 q4 s0 s1 s2 s3 s4 hW2 c0 c1 c2 c3 c4 d0 d1 d2 d3 d4 hA' hA2' hxa
        clear r0 r1 r2 r3 r4 hb1 hb2 cf df hX hY
        by_cases e0 : xd = yd
        · subst e0
          have z0 : (xd != xd) = false := by simp
          by_cases e1 : xn = yn
          · subst e1
            by_cases e2 : xt = yt
            · subst e2
              by_cases e3 : xa.length = ya.length
              · have z3 : ((xa.length : Int) == (ya.length : Int)) = true := by simp [e3]
                have z4 : ((xa.length : Int) != (ya.length : Int)) = false := by rw [bne, z3]; rfl
                have HE := Hid.mkS e3
                have HS : Hid (sameEs l m = (sameAs xa ya && sameEs (l.drop (k + 1)) (m.drop (k + 1)))) := Hid.mkS (by rw [hq.out, hd]; simp [sameE])
                clear e3 hd hq
                go_wp2_with fail
                clear hW2 q0 q1 q2 q3 q4 s0 s1 s2 s3 s4 c0 c1 c3 c4 d0 d1 d3 d4 z3 z4 hBW
                go_loopw [8] (fun i wr => ∃ j : Nat, j ≤ xa.length ∧ i = .int .i64 j ∧ Below W2.heap.size W2 wr ∧ Hid (sameAs xa ya = sameAs (xa.drop j) (ya.drop j))) (fun i _ => xa.length - (RowKit.intOf i).toNat)
                case atStart => exact ⟨0, Nat.zero_le _, rfl, Below.refl _ _, Hid.mkS rfl⟩
                case round =>
                  obtain ⟨j, hj, rfl, hBi, hqi⟩ := hrel
                  have c2' := (hBi.cell (p := ⟨wo.heap.size, 2, none⟩) (by show wo.heap.size < _; omega)).trans c2
                  have d2' := (hBi.cell (p := ⟨wo.heap.size + 1, 2, none⟩) (by show wo.heap.size + 1 < _; omega)).trans d2
                  by_cases hjl : j < xa.length
                  · obtain ⟨a, hya⟩ : ∃ a, xa[j]? = some a := ⟨xa[j], List.getElem?_eq_getElem hjl⟩
                    obtain ⟨b, hyb⟩ : ∃ b, ya[j]? = some b := ⟨ya[j]'(by have := HE.out; omega), List.getElem?_eq_getElem (by have := HE.out; omega)⟩
                    obtain ⟨ga, oa, rfl, _, m0, m1, m2⟩ := (hA'.below hBi).c j a hya
                    obtain ⟨gb, ob, rfl, _, n0, n1, n2⟩ := (hA2'.below hBi).c j b hyb
                    have hjl2 : (j : Int) < xa.length := by omega
                    have hjl3 : (j : Int) < ya.length := by have := HE.out; omega
                    have hdi := sameAs_drop hya hyb
                    clear hya hyb hA' hA2'
                    obtain ⟨an, av, ap⟩ := a
                    obtain ⟨bn, bv, bp⟩ := b
                    simp only at m0 m1 m2 n0 n1 n2
                    by_cases f0 : an = bn
                    · subst f0
                      by_cases f1 : av = bv
                      · subst f1
                        have HX : Hid (sameAs xa ya = sameAs (xa.drop (j + 1)) (ya.drop (j + 1))) := Hid.mkS (by rw [hqi.out, hdi]; simp [sameA])
                        clear hdi hqi
                        go_wp2_with fail
                        go_quiet (fail)
                        go_wp2_with fail
                        go_roundw
                        case rel => exact ⟨j + 1, by omega, by go_num, tdr hBi, HX⟩
                        case measure => simp [RowKit.intOf]; omega
                      · have y1 := beq_ba f1
                        have y2 := bne_ba f1
                        have HX : Hid (sameEs l m = false) := Hid.mkS (by rw [HS.out, hqi.out, hdi]; simp [sameA, f1])
                        clear hdi hqi
                        go_wp2_with fail
                        go_quiet (fail)
                        go_wp2_with fail
                        go_ret
                        exact ⟨by rw [HX.out]; rfl, HBW.out.trans ((tdr hBi).mono HBW.out.size)⟩
                    · have y1 := beq_ba f0
                      have y2 := bne_ba f0
                      have HX : Hid (sameEs l m = false) := Hid.mkS (by rw [HS.out, hqi.out, hdi]; simp [sameA, f0])
                      clear hdi hqi
                      go_wp2_with fail
                      go_quiet (fail)
                      go_wp2_with fail
                      go_ret
                      exact ⟨by rw [HX.out]; rfl, HBW.out.trans ((tdr hBi).mono HBW.out.size)⟩
                  · obtain rfl : j = xa.length := by omega
                    have HX : Hid (sameEs l m = sameEs (l.drop (k + 1)) (m.drop (k + 1))) := Hid.mkS (by rw [HS.out, hqi.out, List.drop_length, HE.out, List.drop_length]; rfl)
                    clear hqi
                    go_wp2_with fail
                    go_roundw
                    case rel => exact ⟨k + 1, by omega, by go_num, HBW.out.trans (hBi.mono HBW.out.size), HX⟩
                    case measure => simp [RowKit.intOf]; omega
              · have z3 : ((xa.length : Int) == (ya.length : Int)) = false := beq_eq_false_iff_ne.2 (by omega)
                have z4 : ((xa.length : Int) != (ya.length : Int)) = true := by rw [bne, z3]; rfl
                have HX : Hid (sameEs l m = false) := Hid.mkS (by
                  rw [hq.out, hd]
                  cases hs : sameAs xa ya
                  · simp [sameE, hs]
                  · exact absurd (sameAs_len hs) e3)
                clear hd hq e3
                go_wp2_with fail
                go_ret
                exact ⟨by rw [HX.out]; rfl, HBW.out⟩
            · have y1 := beq_ba e2
              have y2 := bne_ba e2
              have HX : Hid (sameEs l m = false) := Hid.mkS (by rw [hq.out, hd]; simp [sameE, e2])
              clear hd hq
              go_wp2_with fail
              go_ret
              exact ⟨by rw [HX.out]; rfl, HBW.out⟩
          · have y1 := beq_ba e1
            have y2 := bne_ba e1
            have HX : Hid (sameEs l m = false) := Hid.mkS (by rw [hq.out, hd]; simp [sameE, e1])
            clear hd hq
            go_wp2_with fail
            go_ret
            exact ⟨by rw [HX.out]; rfl, HBW.out⟩
        · have y1 : (xd == yd) = false := beq_eq_false_iff_ne.2 e0
          have y2 : (xd != yd) = true := by rw [bne, y1]; rfl
          have HX : Hid (sameEs l m = false) := Hid.mkS (by rw [hq.out, hd]; simp [sameE, e0])
          clear hd hq
          go_wp2_with fail
          go_ret
          exact ⟨by rw [HX.out]; rfl, HBW.out⟩
      · obtain rfl : k = l.length := by omega
        have HX : Hid (sameEs l m = true) := Hid.mkS (by rw [hq.out, List.drop_length, HL.out, List.drop_length]; rfl)
        clear hq
        go_wp2_with fail
        go_ret
        exact ⟨by rw [HX.out]; rfl, hB⟩
  · have hs : sameEs l m = false := by
      cases h : sameEs l m
      · rfl
      · exact absurd (sameEs_len h) hlm
    have b0 : ((l.length : Int) == (m.length : Int)) = false := beq_eq_false_iff_ne.2 (by omega)
    have b1 : ((l.length : Int) != (m.length : Int)) = true := by rw [bne, b0]; rfl
    rw [hs]
    go_enter Tryz.func10, Tryz.ntmps10
    go_wp2_with fail
    go_ret
    exact ⟨rfl, Below.refl _ _⟩
end Go.Proofs.YtchfphakhmifmaaGreatDoor

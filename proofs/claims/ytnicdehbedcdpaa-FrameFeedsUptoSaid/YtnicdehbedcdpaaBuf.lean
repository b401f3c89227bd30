/- Buffers of bytes that a call makes: what append makes of them, the text that they are. -/
import Derived.Test.YtnicdehbedcdpaaSeq
import Derived.Deep.AppendSrc
import Derived.Deep.AppendLies
import Derived.Laws.AppendOwn
import Derived.Laws.BytesArg
import Derived.Deep.OwnRows
namespace Go.Proofs.Ytnicdehbedcdpaa
open Go.ChangeShapes Go.WideShapes Go.ChangeAt Go.RowKit

/-- A text's bytes; the text of bytes. -/
def lOf (s : ByteArray) : List Nat := s.data.toList.map UInt8.toNat
def sOf (L : List Nat) : ByteArray := ⟨(L.map UInt8.ofNat).toArray⟩
def cU (b : Nat) : Value := .int .u8 (b : Int)
theorem sOf_lOf (s : ByteArray) : sOf (lOf s) = s := by
  apply ba_ext
  unfold sOf lOf
  simp [Function.comp_def]
theorem lOf_sOf (L : List Nat) (h : ∀ b ∈ L, b < 256) : lOf (sOf L) = L := by
  unfold sOf lOf
  simp only [List.map_map]
  conv => rhs; rw [← List.map_id L]
  refine List.map_congr_left fun b hb => ?_
  have := h b hb
  simp [UInt8.toNat_ofNat']
  omega
theorem lOf_lt (s : ByteArray) : ∀ b ∈ lOf s, b < 256 := by
  intro b hb
  obtain ⟨x, _, rfl⟩ := List.mem_map.1 hb
  exact x.toNat_lt
theorem lOf_length (s : ByteArray) : (lOf s).length = s.size := by unfold lOf; rw [List.length_map, tl_len]
theorem sOf_size (L : List Nat) : (sOf L).size = L.length := by unfold sOf; simp [ByteArray.size]
theorem ch_lOf (s : ByteArray) (i : Nat) : ch s i = (lOf s).getD i 0 := by
  unfold ch lOf
  simp only [List.getD, List.getElem?_map]
  cases s.data.toList[i]? <;> rfl
theorem lOf_inj {a b : ByteArray} (h : lOf a = lOf b) : a = b := by rw [← sOf_lOf a, ← sOf_lOf b, h]
theorem lOf_append (a b : ByteArray) : lOf (a ++ b) = lOf a ++ lOf b := by
  unfold lOf
  rw [ByteArray.data_append, Array.toList_append, List.map_append]
theorem lOf_extract (s : ByteArray) (a b : Nat) : lOf (s.extract a b) = ((lOf s).drop a).take (b - a) := by
  unfold lOf
  rw [list_ext, List.map_take, List.map_drop]
theorem sOf_append (a b : List Nat) : sOf (a ++ b) = sOf a ++ sOf b := by
  apply ba_ext
  rw [ByteArray.data_append, Array.toList_append]
  unfold sOf
  simp
theorem byteCells_lOf (s : ByteArray) : byteCells s = (lOf s).map cU := by
  unfold byteCells lOf cU
  rw [List.map_map]; rfl
theorem cU_one (L : List Nat) : ∀ u ∈ L.map cU, u.oneCell' = true := by
  intro u hu
  obtain ⟨_, _, rfl⟩ := List.mem_map.1 hu
  rfl
theorem info5 : ∃ i, Try.prog.info? 5 = some i ∧ i.zero = some (.int .u8 0) ∧ i.size = 1 ∧ i.bytes = 1 := by
  have h : (Try.prog.info? 5).map (fun i => (i.zero, i.size, i.bytes)) = some (some (.int .u8 0), 1, 1) := by kernel_rfl
  obtain ⟨i, hi, hz⟩ := Option.map_eq_some_iff.1 h
  simp only [Prod.mk.injEq] at hz
  exact ⟨i, hi, hz.1, hz.2.1, hz.2.2⟩

theorem rowIs_setCells {b : Nat} {t : TypeId} {n : Nat} : ∀ (vs : List Value) (o : Nat) (f : Nat → Value) (w : World), w.rowIs b t n f → (w.setCells b o vs).rowIs b t n (fun j => if o ≤ j ∧ j < o + vs.length then vs.getD (j - o) (f j) else f j)
  | [], o, f, w, h => h.congr fun j _ => by rw [if_neg (by simp)]
  | v :: vs, o, f, w, h => by
    refine (rowIs_setCells vs (o + 1) _ _ (h.set o v)).congr fun j _ => ?_
    simp only [List.length_cons]
    by_cases e : j = o
    · subst e
      rw [if_neg (by omega), if_pos rfl, if_pos (by omega), Nat.sub_self]; rfl
    · by_cases c : o + 1 ≤ j ∧ j < o + 1 + vs.length
      · have hl : j - (o + 1) < vs.length := by omega
        rw [if_pos c, if_pos (show o ≤ j ∧ j < o + (vs.length + 1) by omega), show j - o = (j - (o + 1)) + 1 by omega]
        simp [List.getD, List.getElem?_eq_getElem hl]
      · rw [if_neg c, if_neg e, if_neg (by omega)]
theorem below_setCells {B b : Nat} {a : World} (hB : B ≤ b) : ∀ (vs : List Value) (o : Nat) (w : World), Below B a w → Below B a (w.setCells b o vs)
  | [], _, _, h => h
  | v :: r, o, _, h => below_setCells hB r (o + 1) _ (h.setCell hB v)
/-- A slice that the call made, from block B on, and the bytes that it holds. -/
def Buf (w : World) (B : Nat) (v : Value) (L : List Nat) : Prop := w.ownsRow B 5 1 v L.length (L.map cU)
theorem Buf.nil (w : World) (B : Nat) : Buf w B (.slice none 0 0) [] := World.ownsRow_nil w B _ 1
theorem Buf.below {w w' : World} {B : Nat} {v : Value} {L : List Nat} (h : Buf w B v L) (hb : Below w.heap.size w w') : Buf w' B v L := by
  refine World.ownsRow.kept (row := none) h ⟨hb.os, hb.tape, hb.output, hb.size, fun k hk _ => hb.block k hk⟩ ?_
  cases hv : v.ownBlock <;> simp
theorem Buf.mono {w : World} {B B' : Nat} {v : Value} {L : List Nat} (h : Buf w B v L) (hB : B' ≤ B) : Buf w B' v L := by
  refine ⟨h.1, ?_⟩
  rcases h.2 with h0 | ⟨g, cap, cur, e, hb, r⟩
  · exact .inl h0
  · exact .inr ⟨g, cap, cur, e, Nat.le_trans hB hb, r⟩
theorem Buf.made (w : World) (B cap : Nat) (hB : B ≤ w.heap.size) (hm : cap ≤ maxLen) : Buf (w.alloc (.cells (Array.replicate cap (.int .u8 0)) 5)) B (.slice (some ⟨w.heap.size, 0, none⟩) 0 cap) [] :=
  World.ownsRow_made w _ cap hB hm (by simp)
/-- The text of a buffer. -/
theorem Buf.conv {w : World} {B : Nat} {v : Value} {L : List Nat} (h : Buf w B v L) : (convert 33 9 v).run Try.prog w = .ok (.string (sOf L)) w := by
  rcases h.2 with ⟨rfl, h0⟩ | ⟨g, cap, cur, rfl, hb, hg, hn, hm, hs, ht⟩
  · obtain rfl : L = [] := List.length_eq_zero_iff.1 h0
    exact run_convert_bytes_nil w 33 5 Try.underlying33 Try.underlying5 0 0 9 Try.underlying9
  · have := run_convert_bytes_arg w 33 5 Try.underlying33 Try.underlying5 g 0 L.length cap (L.map Int.ofNat) (by simp) (fun i hi => by
      have hx : (L.map cU)[i]? = some (cU L[i]) := by simp [hi]
      have := World.ownsRow.cells h (g := g) rfl i _ hx
      have hadd : (⟨g, 0, none⟩ : Addr).add i = ⟨g, i, none⟩ := by unfold Addr.add; split <;> simp_all
      rw [hadd] at this
      rw [Nat.zero_add, this]
      simp [cU, List.getD, hi]) 9 Try.underlying9
    have e : strOfNums (L.map Int.ofNat) = sOf L := by
      unfold strOfNums sOf
      simp [Function.comp_def]
    rw [this, e]
/-- An append onto a buffer. -/
theorem Buf.append {w : World} {B : Nat} {v : Value} {L : List Nat} (h : Buf w B v L) {tx : TypeId} {x : Value} {M : List Nat} (S : Src Try.prog 1 tx x M.length (M.map cU) w) (hl : L.length + M.length ≤ 140737488355328) (hB : B ≤ w.heap.size) :
    ∃ v' w', (∀ ty, (Builtin.append_ #[33, tx] ty #[v, x]).run Try.prog w = .ok v' w') ∧ (Buf w' B v' (L ++ M) ∧ Below B w w') := by
  obtain ⟨i, hi, hz, hsz, hby⟩ := info5
  have S' : Src Try.prog i.size tx x M.length (M.map cU) w := by rw [hsz]; exact S
  have hlen : (L ++ M).map cU = L.map cU ++ M.map cU := List.map_append
  -- the way that grows
  have grow : ∀ (base : Option Addr) (sCap : Nat), v = .slice base L.length sCap → sCap < L.length + M.length →
      (Builtin.firstCells i.size L.length (.slice base L.length sCap)).run Try.prog w.drew = .ok (L.map cU).toArray w.drew →
      ∃ v' w', (∀ ty, (Builtin.append_ #[33, tx] ty #[v, x]).run Try.prog w = .ok v' w') ∧ (Buf w' B v' (L ++ M) ∧ Below B w w') := by
    rintro base sCap rfl hlt hold
    have hfit : Builtin.nextslicecap (L.length + M.length) sCap * i.bytes ≤ 281474976710656 := by
      have := growslice_fits (bytes := 1) hlt (by omega)
      rw [hby]; exact this
    have ge := grownCap_ge w (L.length + M.length) sCap 5
    have le := grownCap_le_maxLen w (L.length + M.length) sCap 5 (by unfold maxLen; omega)
    refine ⟨_, _, fun ty => run_append_grow_src w 33 tx ty 5 i (.int .u8 0) Try.underlying33 hi hz base L.length sCap _ hold x M.length _ S' hlt (by omega) hfit, ⟨?_, ?_⟩, (Below.refl _ _).drew.alloc hB _⟩
    · rw [List.length_map, List.length_append, Nat.mul_one]
    · refine .inr ⟨w.heap.size, _, _, by rw [List.length_append], hB, heap_alloc_new w.drew _, by rw [List.length_append]; exact ge, le, ?_, ?_⟩
      · simp only [Array.size_append, List.size_toArray, size_zeroCells]
        rw [List.length_append, List.length_map, List.length_map, show (Value.int .u8 0).cells.size = 1 from rfl]
        omega
      · rw [Nat.mul_one, Array.toList_append, List.take_append_of_le_length (by simp), hlen, List.take_of_length_le (by simp)]
  rcases h.2 with ⟨rfl, h0⟩ | ⟨g, cap, cur, rfl, hb, hg, hn, hm, hs, ht⟩
  · obtain rfl : L = [] := List.length_eq_zero_iff.1 h0
    by_cases hM : M.length = 0
    · obtain rfl : M = [] := List.length_eq_zero_iff.1 hM
      refine ⟨.slice none 0 0, w, fun ty => ?_, h, Below.refl _ _⟩
      have hln : ∀ w' : World, (Builtin.lenOf x).run Try.prog w' = .ok 0 w' := S'.len
      have hcl : (Builtin.firstCells i.size 0 x).run Try.prog w = .ok #[] w := S'.cells
      rcases S'.kind with ⟨e', hk⟩ | hk <;>
        simp [Builtin.append_, run_underlying Try.underlying33, run_underlying hk, sizeOf, typeInfo, hi, hln, hcl]
    · exact grow none 0 rfl (by simp; omega) (by simpa using run_firstCells_none w.drew i.size 0 0 0)
  · by_cases hroom : L.length + M.length ≤ cap
    · have hcs : cur.size = cap := by rw [hs, Nat.mul_one]
      refine ⟨_, _, fun ty => run_append_room_src w 33 tx ty 5 i Try.underlying33 hi g 0 L.length cap x M.length _ S' hroom (fun j hj => ?_) (fun j hj => ?_), ⟨?_, ?_⟩, ?_⟩
      · rw [hsz, Nat.zero_add, Nat.mul_one, cell_of_row w g _ cur _ (0, 0) hg]
        rw [List.length_map] at hj
        have : L.length + j < cur.size := by omega
        simp [this]
      · unfold World.frozen?
        simp [hg]
      · rw [List.length_map, List.length_append, Nat.mul_one]
      · rw [hsz, Nat.zero_add, Nat.mul_one]
        have R : w.rowIs g 5 cap (fun j => cur.toList.getD j (.int .u8 0)) := ⟨cur, hg, hcs, fun j hj => by
          have : j < cur.size := by omega
          simp [List.getD, this]⟩
        obtain ⟨cur', h1, h2, h3⟩ := rowIs_setCells (M.map cU) L.length _ _ R
        refine .inr ⟨g, cap, cur', by rw [List.length_append], hb, h1, by rw [List.length_append]; exact hroom, hm, by rw [h2, Nat.mul_one], ?_⟩
        rw [List.length_append, Nat.mul_one, hlen]
        rw [Nat.mul_one] at ht
        apply List.ext_getElem?
        intro j
        by_cases hj : j < L.length + M.length
        · have hj2 : j < cap := by omega
          have hj3 := h3 j hj2
          rw [List.getElem?_take_of_lt hj, Array.getElem?_toList, hj3]
          dsimp only
          by_cases hjl : j < L.length
          · rw [if_neg (by omega), List.getElem?_append_left (by simpa using hjl), ← ht, List.getElem?_take_of_lt hjl]
            have : j < cur.size := by omega
            simp [List.getD, this]
          · rw [if_pos ⟨by omega, by simpa using hj⟩, List.getElem?_append_right (by simpa using hjl), List.length_map]
            have : j - L.length < (M.map cU).length := by simp; omega
            simp [List.getD, show j - L.length < M.length by omega]
        · rw [List.getElem?_eq_none (by simp; omega), List.getElem?_eq_none (by simp; omega)]
      · exact below_setCells hb _ _ _ (Below.refl _ _)
    · refine grow (some ⟨g, 0, none⟩) cap rfl (by omega) ?_
      refine run_firstCells_some w.drew i.size L.length ⟨g, 0, none⟩ L.length cap _ (by rw [List.length_map, hsz, Nat.mul_one]) (fun j u hu => ?_)
      have := World.ownsRow.cells h (g := g) rfl j u hu
      simpa using this
end Go.Proofs.Ytnicdehbedcdpaa

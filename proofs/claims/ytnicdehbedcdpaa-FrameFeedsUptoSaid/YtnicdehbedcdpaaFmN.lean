/- An append onto a buffer leaves every other block; in which block its answer lies; Clone, add, drop, pack. -/
import Derived.Test.YtnicdehbedcdpaaFmI
import Derived.Deep.AppendSrc
namespace Go.Proofs.Ytnicdehbedcdpaa
open Go.ChangeShapes Go.WideShapes Go.ChangeAt Go.RowKit


theorem tSetCells_other {b k : Nat} (h : k = b → False) : ∀ (vs : List Value) (o : Nat) (w : World), (w.setCells b o vs).heap[k]? = w.heap[k]?
  | [], _, _ => rfl
  | _ :: r, o, w => (tSetCells_other h r (o + 1) _).trans (Below.heap_setCell w _ _ _ (fun e => h e))
theorem tbufAppend {w : World} {B : Nat} {v : Value} {L : List Nat} (h : Buf w B v L) {tx : TypeId} {x : Value} {M : List Nat} (S : Src Try.prog 1 tx x M.length (M.map cU) w) (hl : L.length + M.length ≤ 140737488355328) (hB : B ≤ w.heap.size) :
    ∃ v' w', (∀ ty, (Builtin.append_ #[33, tx] ty #[v, x]).run Try.prog w = .ok v' w') ∧ (Buf w' B v' (L ++ M) ∧ Below B w w' ∧ (∀ k, k < w.heap.size → v.ownBlock ≠ some k → w'.heap[k]? = w.heap[k]?) ∧ ∀ k, v'.ownBlock = some k → v.ownBlock = some k ∨ w.heap.size ≤ k) := by
  obtain ⟨i, hi, hz, hsz, hby⟩ := info5
  have S' : Src Try.prog i.size tx x M.length (M.map cU) w := by rw [hsz]; exact S
  have hlen : (L ++ M).map cU = L.map cU ++ M.map cU := List.map_append
  -- the way that grows
  have grow : ∀ (base : Option Addr) (sCap : Nat), v = .slice base L.length sCap → sCap < L.length + M.length →
      (Builtin.firstCells i.size L.length (.slice base L.length sCap)).run Try.prog w.drew = .ok (L.map cU).toArray w.drew →
      ∃ v' w', (∀ ty, (Builtin.append_ #[33, tx] ty #[v, x]).run Try.prog w = .ok v' w') ∧ (Buf w' B v' (L ++ M) ∧ Below B w w' ∧ (∀ k, k < w.heap.size → v.ownBlock ≠ some k → w'.heap[k]? = w.heap[k]?) ∧ ∀ k, v'.ownBlock = some k → v.ownBlock = some k ∨ w.heap.size ≤ k) := by
    rintro base sCap rfl hlt hold
    have hfit : Builtin.nextslicecap (L.length + M.length) sCap * i.bytes ≤ 281474976710656 := by
      have := growslice_fits (bytes := 1) hlt (by omega)
      rw [hby]; exact this
    have ge := grownCap_ge w (L.length + M.length) sCap 5
    have le := grownCap_le_maxLen w (L.length + M.length) sCap 5 (by unfold maxLen; omega)
    refine ⟨_, _, fun ty => run_append_grow_src w 33 tx ty 5 i (.int .u8 0) Try.underlying33 hi hz base L.length sCap _ hold x M.length _ S' hlt (by omega) hfit, ⟨?_, ?_⟩, (Below.refl _ _).drew.alloc hB _, fun k hk _ => Below.heap_alloc w.drew _ k hk, fun k hk => by cases hk; exact .inr (Nat.le_refl _)⟩
    · rw [List.length_map, List.length_append, Nat.mul_one]
    · refine .inr ⟨w.heap.size, _, _, by rw [List.length_append], hB, heap_alloc_new w.drew _, by rw [List.length_append]; exact ge, le, ?_, ?_⟩
      · simp only [Array.size_append, List.size_toArray, size_zeroCells]
        rw [List.length_append, List.length_map, List.length_map, show (Value.int .u8 0).cells.size = 1 from rfl]
        omega
      · rw [Nat.mul_one, Array.toList_append, List.take_append_of_le_length (by simp), hlen, List.take_of_length_le (by simp)]
  rcases h.2 with ⟨rfl, h0⟩ | ⟨g, cap, cur, rfl, hb, hg, hn, hm, hs, ht⟩
  · obtain rfl : L = [] := List.length_eq_zero_iff.1 h0
    by_cases hM : M.length = 0
    · obtain rfl : M = [] := List.length_eq_zero_iff.1 hM
      refine ⟨.slice none 0 0, w, fun ty => ?_, h, Below.refl _ _, fun _ _ _ => rfl, fun k hk => .inl hk⟩
      have hln : ∀ w' : World, (Builtin.lenOf x).run Try.prog w' = .ok 0 w' := S'.len
      have hcl : (Builtin.firstCells i.size 0 x).run Try.prog w = .ok #[] w := S'.cells
      rcases S'.kind with ⟨e', hk⟩ | hk <;>
        simp [Builtin.append_, run_underlying Try.underlying33, run_underlying hk, sizeOf, typeInfo, hi, hln, hcl]
    · exact grow none 0 rfl (by simp; omega) (by simpa using run_firstCells_none w.drew i.size 0 0 0)
  · by_cases hroom : L.length + M.length ≤ cap
    · have hcs : cur.size = cap := by rw [hs, Nat.mul_one]
      refine ⟨_, _, fun ty => run_append_room_src w 33 tx ty 5 i Try.underlying33 hi g 0 L.length cap x M.length _ S' hroom (fun j hj => ?_) (fun j hj => ?_), ⟨?_, ?_⟩, ?_, fun k hk hne => tSetCells_other (fun e => hne (by rw [e]; rfl)) _ _ _, fun k hk => .inl hk⟩
      · rw [hsz, Nat.zero_add, Nat.mul_one, cell_of_row w g _ cur _ (0, 0) hg]
        rw [List.length_map] at hj
        have : L.length + j < cur.size := by omega
        simp [this]
      · unfold World.frozen?
        simp [hg]
      · rw [List.length_map, List.length_append, Nat.mul_one]
      · rw [hsz, Nat.zero_add, Nat.mul_one]
        have R : w.rowIs g 5 cap (fun j => cur.toList.getD j (.int .u8 0)) := ⟨cur, hg, hcs, fun j hj => by
          have : j < cur.size := by omega
          simp [List.getD, this]⟩
        obtain ⟨cur', h1, h2, h3⟩ := rowIs_setCells (M.map cU) L.length _ _ R
        refine .inr ⟨g, cap, cur', by rw [List.length_append], hb, h1, by rw [List.length_append]; exact hroom, hm, by rw [h2, Nat.mul_one], ?_⟩
        rw [List.length_append, Nat.mul_one, hlen]
        rw [Nat.mul_one] at ht
        apply List.ext_getElem?
        intro j
        by_cases hj : j < L.length + M.length
        · have hj2 : j < cap := by omega
          have hj3 := h3 j hj2
          rw [List.getElem?_take_of_lt hj, Array.getElem?_toList, hj3]
          dsimp only
          by_cases hjl : j < L.length
          · rw [if_neg (by omega), List.getElem?_append_left (by simpa using hjl), ← ht, List.getElem?_take_of_lt hjl]
            have : j < cur.size := by omega
            simp [List.getD, this]
          · rw [if_pos ⟨by omega, by simpa using hj⟩, List.getElem?_append_right (by simpa using hjl), List.length_map]
            have : j - L.length < (M.map cU).length := by simp; omega
            simp [List.getD, show j - L.length < M.length by omega]
        · rw [List.getElem?_eq_none (by simp; omega), List.getElem?_eq_none (by simp; omega)]
      · exact below_setCells hb _ _ _ (Below.refl _ _)
    · refine grow (some ⟨g, 0, none⟩) cap rfl (by omega) ?_
      refine run_firstCells_some w.drew i.size L.length ⟨g, 0, none⟩ L.length cap _ (by rw [List.length_map, hsz, Nat.mul_one]) (fun j u hu => ?_)
      have := World.ownsRow.cells h (g := g) rfl j u hu
      simpa using this
theorem tbufStr {w : World} {B : Nat} {v : Value} {L : List Nat} (h : Buf w B v L) (t : ByteArray) (hl : L.length + t.size ≤ 140737488355328) (hB : B ≤ w.heap.size) :
    ∃ v' w', (∀ ty, (Builtin.append_ #[33, 9] ty #[v, .string t]).run Try.prog w = .ok v' w') ∧ (Buf w' B v' (L ++ lOf t) ∧ Below B w w' ∧ (∀ k, k < w.heap.size → v.ownBlock ≠ some k → w'.heap[k]? = w.heap[k]?) ∧ ∀ k, v'.ownBlock = some k → v.ownBlock = some k ∨ w.heap.size ≤ k) := by
  have S := Src.ofString (P := Try.prog) (tx := 9) w Try.underlying9 t
  rw [byteCells_lOf, ← lOf_length] at S
  exact tbufAppend h S (by rw [lOf_length]; exact hl) hB
end Go.Proofs.Ytnicdehbedcdpaa

/- What the laws of the cursor are handed and keep: ops in memory, texts of a buffer. -/
import Derived.Test.YtfhphjgcmbneeaaDoorPAp
import Derived.Test.YtfhphjgcmbneeaaDoorCuR
namespace Go.Proofs.YtfhphjgcmbneeaaDoor
open Go.ChangeShapes Go.WideShapes Go.ChangeAt Go.RowKit

/-- The laws' own bytes 1, 2, 3. -/
def f123 (j : Nat) : Int := if j < 3 then (j : Int) + 1 else 0
theorem f123_bd (j : Nat) : 0 ≤ f123 j ∧ f123 j ≤ 255 := by unfold f123; split <;> omega
theorem row123 (w : World) : (w.alloc (.cells #[.int .u8 1, .int .u8 2, .int .u8 3] 5)).rowIs w.heap.size 5 3 (fun j => .int .u8 (f123 j)) :=
  World.rowIs_alloc w #[.int .u8 1, .int .u8 2, .int .u8 3] 5 _ (fun i hi => by
    have : i = 0 ∨ i = 1 ∨ i = 2 := by simp at hi; omega
    rcases this with rfl | rfl | rfl <;> rfl)
/-- Ops handed in. -/
structure OpsR (w : World) (ps : Option Addr) (l : List Op1) : Prop where
  c : ∀ i o, l[i]? = some o → ∃ g b pc cc, ps = some ⟨g, b, none⟩ ∧ g < w.heap.size ∧ OpM w g (b + i * 40) o pc cc ∧ OpOk o
theorem OpsR.below {w w' : World} {ps : Option Addr} {l : List Op1} (h : OpsR w ps l) (hb : Below w.heap.size w w') : OpsR w' ps l := ⟨fun i o ho => by
  obtain ⟨g, b, pc, cc, e, hg, hm, hk⟩ := h.c i o ho
  exact ⟨g, b, pc, cc, e, Nat.lt_of_lt_of_le hg hb.size, hm.same (hb.block g hg), hk⟩⟩
theorem op_range {w : World} {g b : Nat} {o : Op1} {pc : Option Addr} {cc : Nat} (h : OpM w g b o pc cc) : w.rangeAt g b (opC o pc cc) := fun j v hv => h.c j v hv
theorem infoOp : (Tryd.prog.info? 65).map (·.size) = some 40 := by kernel_rfl
theorem undOp : ∃ d, Tryd.prog.underlying 65 = some d ∧ d.isRow = true := ⟨_, Tryd.underlying65, rfl⟩
theorem opC_one (o : Op1) (pc : Option Addr) (cc : Nat) : ∀ u ∈ opC o pc cc, u.oneCell' = true := by
  intro u hu
  rw [opC_eq] at hu
  rcases List.mem_append.1 hu with h | h
  · simp only [opL, List.mem_cons, List.not_mem_nil, or_false] at h
    rcases h with rfl | rfl | rfl | rfl | rfl | rfl | rfl | rfl | rfl | rfl | rfl | rfl | rfl | rfl | rfl | rfl | rfl | rfl | rfl <;> rfl
  · exact tkC_one _ _ _ u h
theorem OpM.load {w : World} {g b : Nat} {o : Op1} {pc : Option Addr} {cc : Nat} (h : OpM w g b o pc cc) : (Instr.loadAt 65 (.pointer (some ⟨g, b, none⟩))).run Tryd.prog w = .ok (opV o pc cc) w := by
  obtain ⟨d, hu, hd⟩ := undOp
  exact run_loadAt_mid w g b 65 (opC o pc cc) d (op_range h) hu hd infoOp
theorem textF_data (f : Nat → Int) (a n : Nat) : (textF f a n).data.toList = (List.range n).map fun i => UInt8.ofNat (f (a + i)).toNat := by
  unfold textF strOfNums
  simp
theorem textF_add (f : Nat → Int) (a n m : Nat) : textF f a (n + m) = textF f a n ++ textF f (a + n) m := by
  apply ByteArray.ext
  apply Array.toList_inj.1
  rw [ByteArray.data_append, Array.toList_append, textF_data, textF_data, textF_data, List.range_add, List.map_append, List.map_map]
  congr 1
  exact List.map_congr_left fun i _ => by show UInt8.ofNat (f (a + (n + i))).toNat = _; rw [Nat.add_assoc]
theorem text_tail (L : Nat) (bi : Nat → Int) : textF (fM L bi) 0 (L + 3) = textF bi 0 L ++ { data := #[77, 78, 79] } := by
  rw [textF_add, textF_congr (f := fM L bi) (g := bi) (a := 0) (n := L) fun j _ hj => by unfold fM; rw [if_pos (by omega)]]
  congr 1
  unfold textF
  have e0 : fM L bi (0 + L + 0) = 77 := by unfold fM; rw [if_neg (by omega), if_pos (by omega)]; simp
  have e1 : fM L bi (0 + L + 1) = 78 := by unfold fM; rw [if_neg (by omega), if_pos (by omega)]; simp
  have e2 : fM L bi (0 + L + 2) = 79 := by unfold fM; rw [if_neg (by omega), if_pos (by omega)]; simp
  show strOfNums [fM L bi (0 + L + 0), fM L bi (0 + L + 1), fM L bi (0 + L + 2)] = _
  rw [e0, e1, e2]
  rfl
theorem text_cut (f : Nat → Int) (n a b : Nat) (h1 : a ≤ b) (h2 : b ≤ n) : (textF f 0 n).extract a b = textF f a (b - a) := by
  apply ByteArray.ext
  apply Array.toList_inj.1
  rw [ByteArray.data_extract, Array.toList_extract, textF_data, textF_data]
  apply List.ext_getElem
  · simp; omega
  · intro i q1 q2
    simp
theorem fM_bd {L : Nat} {bi : Nat → Int} (h : ∀ j, 0 ≤ bi j ∧ bi j ≤ 255) (j : Nat) : 0 ≤ fM L bi j ∧ fM L bi j ≤ 255 := by
  unfold fM
  split
  · exact h j
  · split <;> omega
end Go.Proofs.YtfhphjgcmbneeaaDoor

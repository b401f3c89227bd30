/- PAp, CuV. -/
import Derived.Test.YtgklippjoikadaaDoorK21
import Derived.Deep.AppendSrc
import Derived.Deep.AppendLies
import Derived.Test.YtgklippjoikadaaDoorK17
namespace Go.Proofs.YtgklippjoikadaaDoor
open Go.ChangeShapes Go.WideShapes Go.ChangeAt Go.RowKit

/-- An append whose run is known as something that there is. -/
theorem wpList_append_ex {P : Program} {w : World} {ops : Array Oper} {rest : List Oper} {o : Oper} {a : Act} {Q : Exit → Act → World → Prop} (hgd : o.guard = none) (s x : Operand) (t : TypeId)
    (ho : o.op = .call { callee := .builtin .append, args := #[s, x], argTypes := #[t, t] }) (sv xv : Value) (hs : a.eval s = sv) (hx : a.eval x = xv) (Post : Value → World → Prop)
    (hrun : ∃ v w', (∀ ty, (Builtin.append_ #[t, t] ty #[sv, xv]).run P w = .ok v w') ∧ Post v w')
    (h : ∀ v w', Post v w' → wpList P ops Q rest (a.put o.dst v) w') : wpList P ops Q (o :: rest) a w := by
  obtain ⟨v, w', hr, hp⟩ := hrun
  refine wpList_plain hgd fun _ hK => ?_
  unfold Oper.wp execOp
  simp only [ho, resolve, invoke, builtin, Sem.run_bind, Sem.run_pure, Result.andThen_ok, List.map_toArray, List.map_cons, List.map_nil, hs, hx, hr]
  exact hK _ _ (h v w' hp)
theorem zeros_eq (z : Value) (hz : z.cells = #[z]) (n : Nat) : (Builtin.zeroCells z.cells n).toList = List.replicate n z := by
  rw [hz]
  simp [Builtin.zeroCells]
  apply List.ext_getElem
  · simp
  · intro i h1 h2
    simp [Nat.mod_one]
theorem info5 : (Tryd.prog.info? 5).map (fun i => (i.zero, i.size, i.bytes)) = some (some (.int .u8 0), 1, 1) := by kernel_rfl
theorem info5' : ∃ i, Tryd.prog.info? 5 = some i ∧ i.zero = some (.int .u8 0) ∧ i.size = 1 ∧ i.bytes = 1 := by
  obtain ⟨i, hi, hz⟩ := Option.map_eq_some_iff.1 info5
  simp only [Prod.mk.injEq] at hz
  exact ⟨i, hi, hz.1, hz.2.1, hz.2.2⟩
/-- The slice that a caller handed in: its first L cells. -/
structure Arg (w : World) (a : Option Addr) (L : Nat) (bi : Nat → Int) : Prop where
  nil : a = none → L = 0
  cell : ∀ (ad : Addr), a = some ad → ∀ j, j < L → w.cell? (ad.add j) = some (.int .u8 (bi j))
theorem Arg.src {w : World} {a : Option Addr} {L C : Nat} {bi : Nat → Int} (h : Arg w a L bi) : Src Tryd.prog 1 22 (.slice a L C) L ((List.range L).map fun j => .int .u8 (bi j)) w := by
  cases a with
  | none =>
    obtain rfl := h.nil rfl
    exact Src.ofNil w Tryd.underlying22 C
  | some ad =>
    refine Src.ofSlice w Tryd.underlying22 ad L C _ (by simp) (fun j u hu => ?_) (fun u hu => ?_)
    · have hj : j < L := by
        have := (List.getElem?_eq_some_iff.1 hu).1
        simpa using this
      simp [hj] at hu
      rw [← hu]; exact h.cell ad rfl j hj
    · obtain ⟨j, _, rfl⟩ := List.mem_map.1 hu
      rfl
theorem new_row (W : World) (news : List Value) (k : Nat) : (W.alloc (.cells (news.toArray ++ Builtin.zeroCells (Value.int .u8 0).cells k) 5)).rowIs W.heap.size 5 (news.length + k) (fun j => news.getD j (.int .u8 0)) := by
  have e : (news.toArray ++ Builtin.zeroCells (Value.int .u8 0).cells k).toList = news ++ List.replicate k (.int .u8 0) := by
    rw [Array.toList_append, zeros_eq _ rfl]
  have hsz : (news.toArray ++ Builtin.zeroCells (Value.int .u8 0).cells k).size = news.length + k := by
    rw [← Array.length_toList, e]; simp
  have := World.rowIs_alloc W (news.toArray ++ Builtin.zeroCells (Value.int .u8 0).cells k) 5 (fun j => news.getD j (.int .u8 0)) (fun j hj => by
    rw [← Array.getElem?_toList, e]
    rw [hsz] at hj
    by_cases h : j < news.length
    · rw [List.getElem?_append_left h]; simp [List.getD, h]
    · rw [List.getElem?_append_right (by omega), List.getElem?_replicate, if_pos (by omega)]; simp [List.getD, h])
  rw [hsz] at this
  exact this
/-- 'append([]byte{}, b...)'. -/
theorem app_copy (W : World) (g0 : Nat) (a : Option Addr) (L C : Nat) (bi : Nat → Int) (h0 : W.heap[g0]? = some (.cells #[] 5 (0, 0))) (hb : Arg W a L bi) (hL : L ≤ 140737488355328) :
    ∃ v w', (∀ ty, (Builtin.append_ #[22, 22] ty #[.slice (some ⟨g0, 0, none⟩) 0 0, .slice a L C]).run Tryd.prog W = .ok v w') ∧
      ∃ g cap, v = .slice (some ⟨g, 0, none⟩) L cap ∧ Below W.heap.size W w' ∧ w'.rowIs g 5 cap (fun j => .int .u8 (if j < L then bi j else 0)) ∧ L ≤ cap ∧ (g = g0 ∨ g = W.heap.size) ∧ cap ≤ maxLen := by
  obtain ⟨i, hi, hz, hs, hby⟩ := info5'
  have S : Src Tryd.prog i.size 22 (.slice a L C) L ((List.range L).map fun j => .int .u8 (bi j)) W := by rw [hs]; exact hb.src
  have R0 : W.rowIs g0 5 0 (fun j => .int .u8 (if j < L then bi j else 0)) := ⟨#[], h0, rfl, fun i hi => by omega⟩
  rcases Nat.eq_zero_or_pos L with rfl | hpos
  · refine ⟨_, _, fun ty => run_append_room_src W 22 22 ty 5 i Tryd.underlying22 hi g0 0 0 0 _ 0 _ S (Nat.le_refl _) (fun j hj => by simp at hj) (fun j hj => by simp at hj), g0, 0, rfl, ?_, ?_, Nat.le_refl _, Or.inl rfl, Nat.zero_le _⟩
    · exact Below.refl _ _
    · exact R0
  · have hold : (Builtin.firstCells i.size 0 (.slice (some ⟨g0, 0, none⟩) 0 0)).run Tryd.prog W.drew = .ok ([] : List Value).toArray W.drew :=
      run_firstCells_some W.drew i.size 0 ⟨g0, 0, none⟩ 0 0 [] (by simp) (fun j u hu => by simp at hu)
    have hfit : Builtin.nextslicecap (0 + L) 0 * i.bytes ≤ 281474976710656 := by
      rw [Nat.zero_add, nextslicecap_zero hpos, hby]; omega
    have ge := grownCap_ge W (0 + L) 0 5
    have le := grownCap_le_maxLen W (0 + L) 0 5 (by unfold maxLen; omega)
    refine ⟨_, _, fun ty => run_append_grow_src W 22 22 ty 5 i (.int .u8 0) Tryd.underlying22 hi hz (some ⟨g0, 0, none⟩) 0 0 [] hold _ L _ S (by omega) (by omega) hfit, W.heap.size, grownCap W (0 + L) 0 5, by simp, ?_, ?_, by omega, Or.inr rfl, le⟩
    · exact (Below.refl _ _).drew.alloc (Nat.le_refl _) _
    · have := new_row W.drew (([] : List Value) ++ ((List.range L).map fun j => Value.int .u8 (bi j))) (grownCap W (0 + L) 0 5 - (0 + L))
      simp only [List.nil_append, List.length_map, List.length_range] at this
      rw [show L + (grownCap W (0 + L) 0 5 - (0 + L)) = grownCap W (0 + L) 0 5 by omega] at this
      refine World.rowIs.congr this fun j hj => ?_
      by_cases hj2 : j < L
      · rw [if_pos hj2]; simp [hj2]
      · rw [if_neg hj2]; simp [hj2]
/-- '.. 77, 78, 79)'. -/
theorem app_three (W : World) (g cap L : Nat) (fi : Nat → Int) (gs c : Nat) (R : W.rowIs g 5 cap (fun j => .int .u8 (fi j))) (hLc : L ≤ cap) (hs : W.heap[gs]? = some (.cells #[.int .u8 77, .int .u8 78, .int .u8 79] 5 (0, 0)))
    (hL : L + 3 ≤ 140737488355328) (hcap : cap ≤ maxLen) :
    ∃ v w', (∀ ty, (Builtin.append_ #[22, 22] ty #[.slice (some ⟨g, 0, none⟩) L cap, .slice (some ⟨gs, 0, none⟩) 3 c]).run Tryd.prog W = .ok v w') ∧
      ∃ g' cap', v = .slice (some ⟨g', 0, none⟩) (L + 3) cap' ∧ (∀ B, B ≤ g → B ≤ W.heap.size → Below B W w') ∧ w'.rowIs g' 5 cap' (fun j => .int .u8 (if j < L then fi j else if j < L + 3 then 77 + ((j - L : Nat) : Int) else if g' = g then fi j else 0)) ∧ L + 3 ≤ cap' ∧ (g' = g ∨ g' = W.heap.size) ∧ cap' ≤ maxLen := by
  obtain ⟨i, hi, hz, hsz, hby⟩ := info5'
  have S : Src Tryd.prog i.size 22 (.slice (some ⟨gs, 0, none⟩) 3 c) 3 [.int .u8 77, .int .u8 78, .int .u8 79] W := by
    rw [hsz]
    exact Src.ofSlice W Tryd.underlying22 ⟨gs, 0, none⟩ 3 c _ rfl (World.news_of_block hs) (fun u hu => by simp at hu; rcases hu with rfl | rfl | rfl <;> rfl)
  have gsz := R.lt
  by_cases hroom : L + 3 ≤ cap
  · refine ⟨_, _, fun ty => run_append_room_src W 22 22 ty 5 i Tryd.underlying22 hi g 0 L cap _ 3 _ S hroom (fun j hj => by rw [hsz, Nat.mul_one, Nat.zero_add, R.cell (i := L + j) (by simp at hj; omega)]; rfl) (fun j _ => R.frozen _), g, cap, rfl, ?_, ?_, hroom, Or.inl rfl, hcap⟩
    · intro B hB hB2
      exact below_setCells hB _ _ _ (Below.refl _ _)
    · rw [hsz, Nat.mul_one, Nat.zero_add]
      refine (rowIs_setCells _ L _ W R).congr fun j hj => ?_
      by_cases h1 : j < L
      · rw [if_neg (by simp; omega), if_pos h1]
      · rw [if_neg h1]
        by_cases h2 : j < L + 3
        · rw [if_pos ⟨by omega, h2⟩, if_pos h2]
          have : j - L = 0 ∨ j - L = 1 ∨ j - L = 2 := by omega
          rcases this with e | e | e <;> rw [e] <;> rfl
        · rw [if_neg (by simp; omega), if_neg h2, if_pos rfl]
  · have hold : (Builtin.firstCells i.size L (.slice (some ⟨g, 0, none⟩) L cap)).run Tryd.prog W.drew = .ok ((List.range L).map fun j => Value.int .u8 (fi j)).toArray W.drew :=
      run_firstCells_some W.drew i.size L ⟨g, 0, none⟩ L cap _ (by simp [hsz]) (fun j u hu => by
        have hj : j < L := by
          have := (List.getElem?_eq_some_iff.1 hu).1
          simpa using this
        simp [hj] at hu
        have hadd : (⟨g, 0, none⟩ : Addr).add j = ⟨g, j, none⟩ := by unfold Addr.add; split <;> simp_all
        rw [hadd, ← hu]; exact R.cell (i := j) (by omega))
    have hfit : Builtin.nextslicecap (L + 3) cap * i.bytes ≤ 281474976710656 := by
      have := growslice_fits (bytes := 1) (show cap < L + 3 by omega) (by omega)
      rw [hby]; exact this
    have ge := grownCap_ge W (L + 3) cap 5
    have le := grownCap_le_maxLen W (L + 3) cap 5 (by unfold maxLen; omega)
    have gne : ¬ W.heap.size = g := by omega
    refine ⟨_, _, fun ty => run_append_grow_src W 22 22 ty 5 i (.int .u8 0) Tryd.underlying22 hi hz (some ⟨g, 0, none⟩) L cap _ hold _ 3 _ S (by omega) (by omega) hfit, W.heap.size, grownCap W (L + 3) cap 5, rfl, ?_, ?_, ge, Or.inr rfl, le⟩
    · intro B hB hB2
      exact (Below.refl _ _).drew.alloc hB2 _
    · have := new_row W.drew (((List.range L).map fun j => Value.int .u8 (fi j)) ++ [.int .u8 77, .int .u8 78, .int .u8 79]) (grownCap W (L + 3) cap 5 - (L + 3))
      simp only [List.length_append, List.length_map, List.length_range, List.length_cons, List.length_nil] at this
      rw [show L + (0 + 1 + 1 + 1) + (grownCap W (L + 3) cap 5 - (L + 3)) = grownCap W (L + 3) cap 5 by omega] at this
      refine World.rowIs.congr this fun j hj => ?_
      by_cases h1 : j < L
      · rw [if_pos h1]; simp [List.getD, List.getElem?_append, h1]
      · rw [if_neg h1]
        by_cases h2 : j < L + 3
        · rw [if_pos h2]
          have : j - L = 0 ∨ j - L = 1 ∨ j - L = 2 := by omega
          rcases this with e | e | e <;> simp [List.getD, List.getElem?_append, h1, e]
        · rw [if_neg h2, if_neg gne]
          have : 3 ≤ j - L := by omega
          simp [List.getD, List.getElem?_append, h1, this]
theorem Arg.below {w w' : World} {a : Option Addr} {L : Nat} {bi : Nat → Int} (h : Arg w a L bi) (hb : Below w.heap.size w w') : Arg w' a L bi :=
  ⟨h.nil, fun ad e j hj => (hb.cell (p := ad.add j) (World.block_lt_of_cell? w _ (h.cell ad e j hj))).trans (h.cell ad e j hj)⟩
theorem heap_two (w : World) (o1 o2 : Obj) : ((w.alloc o1).alloc o2).heap[w.heap.size + 1]? = some o2 := by
  have := heap_alloc_new (w.alloc o1) o2
  simpa using this
theorem conv_arg {w : World} {a : Option Addr} {L C : Nat} {bi : Nat → Int} (h : Arg w a L bi) (hbi : ∀ j, 0 ≤ bi j ∧ bi j ≤ 255) : (convert 22 9 (.slice a L C)).run Tryd.prog w = .ok (.string (textF bi 0 L)) w := by
  cases a with
  | none =>
    obtain rfl := h.nil rfl
    exact run_convert_bytes_nil w 22 5 Tryd.underlying22 Tryd.underlying5 0 C 9 Tryd.underlying9
  | some ad =>
    have := run_convert_bytes_back w 22 9 5 ad C ((List.range L).map fun j => UInt8.ofNat (bi j).toNat) Tryd.underlying22 Tryd.underlying5 Tryd.underlying9 (fun j hj => by
      have hj2 : j < L := by simpa using hj
      rw [h.cell ad rfl j hj2]
      have := hbi j
      simp
      omega)
    simp only [List.length_map, List.length_range] at this
    rw [this]
    unfold textF strOfNums
    simp
/-- The laws' buffer: what came in, and three marks behind it. -/
def fM (L : Nat) (bi : Nat → Int) (j : Nat) : Int := if j < L then bi j else if j < L + 3 then 77 + ((j - L : Nat) : Int) else 0
theorem fM_of (L : Nat) (bi : Nat → Int) (j : Nat) (c : Prop) [Decidable c] : (if j < L then (if j < L then bi j else 0) else if j < L + 3 then 77 + ((j - L : Nat) : Int) else if c then (if j < L then bi j else 0) else 0) = fM L bi j := by
  unfold fM
  by_cases h1 : j < L <;> simp [h1]
theorem conv_same (g cap L : Nat) (f z : Nat → Int) (w : World) (R : w.rowIs g 5 cap (fun j => .int .u8 (f j))) (hf : ∀ j, j < L → f j = z j) (h : L ≤ cap) :
    ∀ c, (convert 22 9 (.slice (some ⟨g, 0, none⟩) L c)).run Tryd.prog w = .ok (.string (textF z 0 L)) w := fun c => by
  rw [text_conv w g cap f R 0 L c (by omega), textF_congr fun j _ hj => hf j (by omega)]
end Go.Proofs.YtgklippjoikadaaDoor
namespace Go.Proofs.YtgklippjoikadaaDoor
open Go.ChangeShapes Go.WideShapes Go.ChangeAt Go.RowKit

/-- The laws' own bytes 1, 2, 3. -/
def f123 (j : Nat) : Int := if j < 3 then (j : Int) + 1 else 0
theorem f123_bd (j : Nat) : 0 ≤ f123 j ∧ f123 j ≤ 255 := by unfold f123; split <;> omega
theorem row123 (w : World) : (w.alloc (.cells #[.int .u8 1, .int .u8 2, .int .u8 3] 5)).rowIs w.heap.size 5 3 (fun j => .int .u8 (f123 j)) :=
  World.rowIs_alloc w #[.int .u8 1, .int .u8 2, .int .u8 3] 5 _ (fun i hi => by
    have : i = 0 ∨ i = 1 ∨ i = 2 := by simp at hi; omega
    rcases this with rfl | rfl | rfl <;> rfl)
/-- Ops handed in. -/
structure OpsR (w : World) (ps : Option Addr) (l : List Op1) : Prop where
  c : ∀ i o, l[i]? = some o → ∃ g b pc cc, ps = some ⟨g, b, none⟩ ∧ g < w.heap.size ∧ OpM w g (b + i * 40) o pc cc ∧ OpOk o
theorem OpsR.below {w w' : World} {ps : Option Addr} {l : List Op1} (h : OpsR w ps l) (hb : Below w.heap.size w w') : OpsR w' ps l := ⟨fun i o ho => by
  obtain ⟨g, b, pc, cc, e, hg, hm, hk⟩ := h.c i o ho
  exact ⟨g, b, pc, cc, e, Nat.lt_of_lt_of_le hg hb.size, hm.same (hb.block g hg), hk⟩⟩
theorem op_range {w : World} {g b : Nat} {o : Op1} {pc : Option Addr} {cc : Nat} (h : OpM w g b o pc cc) : w.rangeAt g b (opC o pc cc) := fun j v hv => h.c j v hv
theorem infoOp : (Tryd.prog.info? 50).map (·.size) = some 40 := by kernel_rfl
theorem undOp : ∃ d, Tryd.prog.underlying 50 = some d ∧ d.isRow = true := ⟨_, Tryd.underlying50, rfl⟩
theorem opC_one (o : Op1) (pc : Option Addr) (cc : Nat) : ∀ u ∈ opC o pc cc, u.oneCell' = true := by
  intro u hu
  rw [opC_eq] at hu
  rcases List.mem_append.1 hu with h | h
  · simp only [opL, List.mem_cons, List.not_mem_nil, or_false] at h
    rcases h with rfl | rfl | rfl | rfl | rfl | rfl | rfl | rfl | rfl | rfl | rfl | rfl | rfl | rfl | rfl | rfl | rfl | rfl | rfl <;> rfl
  · exact tkC_one _ _ _ u h
theorem OpM.load {w : World} {g b : Nat} {o : Op1} {pc : Option Addr} {cc : Nat} (h : OpM w g b o pc cc) : (Instr.loadAt 50 (.pointer (some ⟨g, b, none⟩))).run Tryd.prog w = .ok (opV o pc cc) w := by
  obtain ⟨d, hu, hd⟩ := undOp
  exact run_loadAt_mid w g b 50 (opC o pc cc) d (op_range h) hu hd infoOp
theorem textF_data (f : Nat → Int) (a n : Nat) : (textF f a n).data.toList = (List.range n).map fun i => UInt8.ofNat (f (a + i)).toNat := by
  unfold textF strOfNums
  simp
theorem textF_add (f : Nat → Int) (a n m : Nat) : textF f a (n + m) = textF f a n ++ textF f (a + n) m := by
  apply ByteArray.ext
  apply Array.toList_inj.1
  rw [ByteArray.data_append, Array.toList_append, textF_data, textF_data, textF_data, List.range_add, List.map_append, List.map_map]
  congr 1
  exact List.map_congr_left fun i _ => by show UInt8.ofNat (f (a + (n + i))).toNat = _; rw [Nat.add_assoc]
theorem text_tail (L : Nat) (bi : Nat → Int) : textF (fM L bi) 0 (L + 3) = textF bi 0 L ++ { data := #[77, 78, 79] } := by
  rw [textF_add, textF_congr (f := fM L bi) (g := bi) (a := 0) (n := L) fun j _ hj => by unfold fM; rw [if_pos (by omega)]]
  congr 1
  unfold textF
  have e0 : fM L bi (0 + L + 0) = 77 := by unfold fM; rw [if_neg (by omega), if_pos (by omega)]; simp
  have e1 : fM L bi (0 + L + 1) = 78 := by unfold fM; rw [if_neg (by omega), if_pos (by omega)]; simp
  have e2 : fM L bi (0 + L + 2) = 79 := by unfold fM; rw [if_neg (by omega), if_pos (by omega)]; simp
  show strOfNums [fM L bi (0 + L + 0), fM L bi (0 + L + 1), fM L bi (0 + L + 2)] = _
  rw [e0, e1, e2]
  rfl
theorem text_cut (f : Nat → Int) (n a b : Nat) (h1 : a ≤ b) (h2 : b ≤ n) : (textF f 0 n).extract a b = textF f a (b - a) := by
  apply ByteArray.ext
  apply Array.toList_inj.1
  rw [ByteArray.data_extract, Array.toList_extract, textF_data, textF_data]
  apply List.ext_getElem
  · simp; omega
  · intro i q1 q2
    simp
theorem fM_bd {L : Nat} {bi : Nat → Int} (h : ∀ j, 0 ≤ bi j ∧ bi j ≤ 255) (j : Nat) : 0 ≤ fM L bi j ∧ fM L bi j ≤ 255 := by
  unfold fM
  split
  · exact h j
  · split <;> omega
end Go.Proofs.YtgklippjoikadaaDoor

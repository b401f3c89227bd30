/- TKq, TRg, TNm, TMd0, TMd. -/
import Derived.Test.YtchfphakhmifmabGreatDoorTA1
import Derived.Laws.OwnMore
import Derived.Lib.SlBytesConst
import Derived.Test.YtchfphakhmifmabGreatDoorProg
import Derived.Deep.RegionHeld
import Derived.Test.YtchfphakhmifmabGreatDoorMB
import Derived.Test.YtchfphakhmifmabGreatDoorMA
import Derived.Test.YtchfphakhmifmabGreatDoorTA2
import Derived.Deep.CutBlock
namespace Go.Proofs.YtchfphakhmifmabGreatDoor
open Go.ChangeShapes Go.WideShapes Go.ChangeAt Go.RowKit Go.Lib

/-- Some more behind a row of one's own; the row itself is as it was. -/
theorem ap2 {W : World} {base : Nat} {t e : TypeId} {z : Value} {size bytes n m : Nat} {v : Value} {xs : List Value} (ht : Tryz.prog.underlying t = some (.slice e)) (hi : (Tryz.prog.info? e).map (fun i => (i.zero, i.size, i.bytes)) = some (some z, size, bytes)) (hz : z.cells.size = size) (hsz : 0 < size)
    (own : W.ownsRow base e size v n xs) {G : Nat} {cs : Array Value} {fr : Nat × Nat} (hG : W.heap[G]? = some (.cells cs e fr)) (hcs : cs.toList.length = m * size) (h1 : ∀ u ∈ cs.toList, u.oneCell' = true) (hm : 0 < m) (hn : n + m ≤ 1000000001) (hb : bytes ≤ 100) (hbase : base ≤ W.heap.size) :
    ∃ v' w', (∀ ty, (Builtin.append_ #[t, t] ty #[v, .slice (some ⟨G, 0, none⟩) m m]).run Tryz.prog W = .ok v' w') ∧ w'.ownsRow base e size v' (n + m) (xs ++ cs.toList) ∧ w'.ownsRow base e size v n xs ∧ W.grownBy w' v.ownBlock ∧ (v'.ownBlock = v.ownBlock ∨ v'.ownBlock = some W.heap.size) := by
  obtain ⟨i0, hi0, hz0⟩ := Option.map_eq_some_iff.1 hi
  simp only [Prod.mk.injEq] at hz0
  have hbb : (n + m) * bytes ≤ 140737488355328 := Nat.le_trans (Nat.mul_le_mul hn hb) (by decide)
  have hr := fun ty => run_append_own_at (P := Tryz.prog) W base t ty e i0 z size bytes ht hi0 hz0.1 hz0.2.1 hz0.2.2 hz hsz v n xs own ⟨G, 0, none⟩ m m cs.toList hcs (World.news_of_block hG) h1 (by simp only [maxLen]; omega) hbb hbase
  obtain ⟨v', w', q1, q2, q3, _, q4⟩ := hr 0
  refine ⟨v', w', fun ty => ?_, q2, ?_, q3, q4⟩
  · have e : (Builtin.append_ #[t, t] ty #[v, .slice (some ⟨G, 0, none⟩) m m]) = (Builtin.append_ #[t, t] 0 #[v, .slice (some ⟨G, 0, none⟩) m m]) := rfl
    rw [e]
    exact q1
  · rcases own.2 with ⟨rfl, h0⟩ | ⟨g, cap, cur, e1, hbg, hg, hnc, hmx, hs', hx⟩
    · exact ⟨own.1, .inl ⟨rfl, h0⟩⟩
    · subst e1
      have hS : Src Tryz.prog i0.size t (.slice (some ⟨G, 0, none⟩) m m) m cs.toList W := by
        rw [hz0.2.1]
        exact Src.ofSlice (P := Tryz.prog) W ht ⟨G, 0, none⟩ m m cs.toList hcs (World.news_of_block hG) h1
      by_cases hroom : n + m ≤ cap
      · have hr2 := run_append_room_src (P := Tryz.prog) W t t 0 e i0 ht hi0 g 0 n cap (.slice (some ⟨G, 0, none⟩) m m) m cs.toList hS hroom
          (fun j hj => by
            rw [hz0.2.1, cell_of_row W g _ cur _ (0, 0) hg]
            rw [hcs] at hj
            have h2 : (n + m) * size ≤ cap * size := Nat.mul_le_mul_right _ hroom
            rw [Nat.add_mul] at h2
            rw [Array.getElem?_eq_getElem (by omega)]
            rfl)
          (fun j hj => by
            simp only [World.frozen?, hg]
            simp)
        rw [hr2] at q1
        injection q1 with e1 e2
        rw [← e1] at q2
        have hf := own_front q2 (show n ≤ n + m by omega)
        rw [List.take_append_of_le_length (by rw [own.1]; exact Nat.le_refl _), List.take_of_length_le (by rw [own.1]; exact Nat.le_refl _)] at hf
        exact hf
      · have hold : (Builtin.firstCells i0.size n (.slice (some ⟨g, 0, none⟩) n cap)).run Tryz.prog W.drew = .ok xs.toArray W.drew := by
          refine run_firstCells_some W.drew i0.size n ⟨g, 0, none⟩ n cap xs (by rw [hz0.2.1]; exact own.1) (fun j u hu => ?_)
          have := World.ownsRow.cells own (g := g) rfl j u hu
          simpa using this
        have hr2 := run_append_grow_src (P := Tryz.prog) W t t 0 e i0 z ht hi0 hz0.1 (some ⟨g, 0, none⟩) n cap xs hold (.slice (some ⟨G, 0, none⟩) m m) m cs.toList hS (by omega) (by omega) (by rw [hz0.2.2]; exact growslice_fits (by omega) hbb)
        rw [hr2] at q1
        injection q1 with e1 e2
        refine ownSame own fun k hk => ?_
        rw [← e2]
        exact Below.heap_alloc W.drew _ k (ownLt own hk).2
/-- A buffer, or a constant text's bytes with the mark that they bear. -/
def BufM (w : World) (B : Nat) (v : Value) (L : List Nat) : Prop := Buf w B v L ∨ ∃ g mk, v = .slice (some ⟨g, 0, none⟩) L.length L.length ∧ B ≤ g ∧ w.heap[g]? = some (.cells (L.map cU).toArray 5 mk)
theorem BufM.below {w w' : World} {B : Nat} {v : Value} {L : List Nat} (h : BufM w B v L) (hb : Below w.heap.size w w') : BufM w' B v L := by
  rcases h with h | ⟨g, mk, e, hB, hg⟩
  · exact .inl (h.below hb)
  · exact .inr ⟨g, mk, e, hB, (hb.block g (Array.getElem?_eq_some_iff.1 hg).1).trans hg⟩
theorem BufM.lit (w : World) (B : Nat) (L : List Nat) (C : Array Value) (hC : C = (L.map cU).toArray) (n : Nat) (hn : n = L.length) (mk : Nat × Nat) (hB : B ≤ w.heap.size) : BufM (w.alloc (.cells C 5 mk)) B (.slice (some ⟨w.heap.size, 0, none⟩) n n) L := by
  subst hC hn
  refine .inr ⟨w.heap.size, mk, rfl, hB, ?_⟩
  show (w.heap.push _)[w.heap.size]? = _
  rw [Array.getElem?_push, if_pos rfl]
theorem BufM.cells {w : World} {g : Nat} {L : List Nat} {mk : Nat × Nat} (hg : w.heap[g]? = some (.cells (L.map cU).toArray 5 mk)) : ∀ j u, (L.map cU)[j]? = some u → w.cell? ((⟨g, 0, none⟩ : Addr).add j) = some u := by
  intro j u hu
  have hadd : (⟨g, 0, none⟩ : Addr).add j = ⟨g, j, none⟩ := by unfold Addr.add; split <;> simp_all
  rw [hadd, cell_of_row w g j _ _ mk hg]
  simpa using hu
theorem BufM.conv {w : World} {B : Nat} {v : Value} {L : List Nat} (h : BufM w B v L) : (convert 59 9 v).run Tryz.prog w = .ok (.string (sOf L)) w := by
  rcases h with h | ⟨g, mk, rfl, hB, hg⟩
  · exact h.conv
  · have := run_convert_bytes_arg w 59 5 Tryz.underlying59 Tryz.underlying5 g 0 L.length L.length (L.map Int.ofNat) (by simp) (fun i hi => by
      have hx : (L.map cU)[i]? = some (cU L[i]) := by simp [hi]
      have := BufM.cells hg i _ hx
      have hadd : (⟨g, 0, none⟩ : Addr).add i = ⟨g, i, none⟩ := by unfold Addr.add; split <;> simp_all
      rw [hadd] at this
      rw [Nat.zero_add, this]
      simp [cU, List.getD, hi]) 9 Tryz.underlying9
    have e : strOfNums (L.map Int.ofNat) = sOf L := by
      unfold strOfNums sOf
      simp [Function.comp_def]
    rw [this, e]
/-- One more byte. -/
theorem bufm_one {w : World} {B : Nat} {v : Value} {L : List Nat} (h : BufM w B v L) (c : Nat) (hl : L.length ≤ 1000) (hB : B ≤ w.heap.size) :
    ∃ v' w', (∀ ty, (Builtin.append_ #[59, 59] ty #[v, .slice (some ⟨w.heap.size, 0, none⟩) 1 1]).run Tryz.prog (w.alloc (.cells #[.int .u8 (c : Int)] 5)) = .ok v' w') ∧ BufM w' B v' (L ++ [c]) ∧ Below B w w' := by
  have hb := bel1 w (.cells #[.int .u8 (c : Int)] 5)
  have hG : (w.alloc (.cells #[.int .u8 (c : Int)] 5)).heap[w.heap.size]? = some (.cells #[.int .u8 (c : Int)] 5) := by
    show (w.heap.push _)[w.heap.size]? = _
    rw [Array.getElem?_push, if_pos rfl]
  have S := src_lit (w.alloc (.cells #[.int .u8 (c : Int)] 5)) w.heap.size 1 1 [c] rfl hG
  rcases h with h | ⟨g, mk, rfl, hBg, hg⟩
  · obtain ⟨v', w', h1, h2, h3, h4, h5⟩ := tbufAppend (M := [c]) (h.below hb) S (by simp; omega) (Nat.le_trans hB hb.size)
    exact ⟨v', w', h1, .inl h2, (hb.mono hB).trans h3⟩
  · obtain ⟨i, hi, hz, hsz, hby⟩ := info5
    have S' : Src Tryz.prog i.size 59 (.slice (some ⟨w.heap.size, 0, none⟩) 1 1) 1 ([c].map cU) (w.alloc (.cells #[.int .u8 (c : Int)] 5)) := by rw [hsz]; exact S
    have hg1 := (hb.block g (Array.getElem?_eq_some_iff.1 hg).1).trans hg
    have hold : (Builtin.firstCells i.size L.length (.slice (some ⟨g, 0, none⟩) L.length L.length)).run Tryz.prog (w.alloc (.cells #[.int .u8 (c : Int)] 5)).drew = .ok (L.map cU).toArray (w.alloc (.cells #[.int .u8 (c : Int)] 5)).drew :=
      run_firstCells_some _ i.size L.length ⟨g, 0, none⟩ L.length L.length _ (by rw [List.length_map, hsz, Nat.mul_one]) (BufM.cells hg1)
    have hfit : Builtin.nextslicecap (L.length + 1) L.length * i.bytes ≤ 281474976710656 := by
      have := growslice_fits (bytes := 1) (show L.length < L.length + 1 by omega) (by omega)
      rw [hby]; exact this
    have ge := grownCap_ge (w.alloc (.cells #[.int .u8 (c : Int)] 5)) (L.length + 1) L.length 5
    have le := grownCap_le_maxLen (w.alloc (.cells #[.int .u8 (c : Int)] 5)) (L.length + 1) L.length 5 (by unfold maxLen; omega)
    refine ⟨_, _, fun ty => run_append_grow_src (w.alloc (.cells #[.int .u8 (c : Int)] 5)) 59 59 ty 5 i (.int .u8 0) Tryz.underlying59 hi hz (some ⟨g, 0, none⟩) L.length L.length _ hold _ 1 _ S' (by omega) (by omega) hfit, .inl ⟨?_, ?_⟩, (hb.mono hB).drew.alloc (Nat.le_trans hB hb.size) _⟩
    · rw [List.length_map, List.length_append, Nat.mul_one]
    · refine .inr ⟨(w.alloc (.cells #[.int .u8 (c : Int)] 5)).heap.size, _, _, by rw [List.length_append]; rfl, Nat.le_trans hB hb.size, heap_alloc_new (w.alloc (.cells #[.int .u8 (c : Int)] 5)).drew _, by rw [List.length_append]; exact ge, le, ?_, ?_⟩
      · simp only [Array.size_append, List.size_toArray, size_zeroCells]
        rw [List.length_append, List.length_map, List.length_map, show (Value.int .u8 0).cells.size = 1 from rfl, List.length_singleton]
        omega
      · rw [Nat.mul_one, Array.toList_append, List.take_append_of_le_length (by simp), List.map_append, List.take_of_length_le (by simp)]
end Go.Proofs.YtchfphakhmifmabGreatDoor
namespace Go.Proofs.YtchfphakhmifmabGreatDoor
open Go

section
variable {P : Program} {ops : Array Oper} {Q : Exit → Act → World → Prop} {md : Region.Mode} {S : World → Prop} {z : Nat}

/-- Whatever order is picked from here on; S holds behind every operation but number z. -/
def wpAnyF (P : Program) (md : Region.Mode) (ops : Array Oper) (Q : Exit → Act → World → Prop) (S : World → Prop) (z : Nat) : Nat → Array Bool → Act → World → Prop
  | 0, listed, a, w => Region.ready md ops listed = [] ∧ Q .normal a w
  | fuel + 1, listed, a, w =>
    (Region.ready md ops listed = [] → Q .normal a w) ∧
    ∀ i ∈ Region.ready md ops listed, wpOp P ops Q i (fun a' w' => (i ≠ z → S w') ∧ wpAnyF P md ops Q S z fuel (listed.setIfInBounds i true) a' w') a w
theorem wpAny_of_F : ∀ (fuel : Nat) (listed : Array Bool) (a : Act) (w : World), wpAnyF P md ops Q S z fuel listed a w → wpAny P md ops Q fuel listed a w
  | 0, _, _, _, h => h
  | fuel + 1, _, _, _, h => ⟨h.1, fun i hi => wpOp_mono (fun a' w' h' => wpAny_of_F fuel _ a' w' h'.2) (h.2 i hi)⟩
/-- Number z waits for number i. -/
def waitsB (md : Region.Mode) (ops : Array Oper) (z i : Nat) : Bool := match ops[z]? with
  | some o => o.after.any fun e => Region.binds md e && e.on == i
  | none => true
theorem not_ready {i : Nat} {listed : Array Bool} (hw : waitsB md ops z i = true) (hi : i ∈ Region.ready md ops listed) : z ∉ Region.ready md ops listed := fun hz => by
  obtain ⟨_, oz, hoz, hall⟩ := mem_ready.1 hz
  unfold waitsB at hw
  rw [hoz] at hw
  obtain ⟨e, he, hb⟩ := Array.any_eq_true'.1 hw
  simp only [Bool.and_eq_true, beq_iff_eq] at hb
  have h1 := hall e he hb.1
  rw [hb.2] at h1
  have h0 := (mem_ready.1 hi).1
  rcases Nat.lt_or_ge i listed.size with h' | h'
  · simp [h'] at h0 h1; rw [h0] at h1; cases h1
  · simp [Array.getElem?_eq_none h'] at h1
theorem wpAnyF_first {i : Nat} {oi : Oper} {v : Value} (hi : ops[i]? = some oi) (hsel : ∀ (j : Nat) (o : Oper) cs b, ops[j]? = some o → o.op ≠ .select cs b)
    (hQ : ∀ c a w, Q (.panic c) (a.put oi.dst v) w → Q (.panic c) a w) (hw : waitsB md ops z i = true) (hiz : i ≠ z) :
    ∀ (fuel : Nat) (listed : Array Bool) (a : Act) (w : World),
      (∀ j oj, ops[j]? = some oj → j ≠ i → listed.getD j true = false → (∀ e ∈ oj.after, Region.binds md e = true → e.on ≠ i) → oi.apart ops oj = true) →
      i ∈ Region.ready md ops listed → YieldsIf P ops S oi v a → S w →
      wpAnyF P md ops Q S z fuel (listed.setIfInBounds i true) (a.put oi.dst v) w → wpAnyF P md ops Q S z (fuel + 1) listed a w := by
  intro fuel
  induction fuel with
  | zero =>
    intro listed a w _ hr hy hS H
    refine ⟨fun h => (by rw [h] at hr; cases hr), fun j hj => ?_⟩
    by_cases hji : j = i
    · subst hji; exact hy.wpOp hi hS ⟨fun _ => hS, H⟩
    · have := ready_mono hj hji
      rw [H.1] at this
      cases this
  | succ fuel ih =>
    intro listed a w hfree hr hy hS H
    refine ⟨fun h => (by rw [h] at hr; cases hr), fun j hj => ?_⟩
    by_cases hji : j = i
    · subst hji; exact hy.wpOp hi hS ⟨fun _ => hS, H⟩
    · have hjz : j ≠ z := fun e => not_ready hw hr (e ▸ hj)
      have h1 := H.2 j (ready_mono hj hji)
      obtain ⟨hjun, oj, hoj, hall⟩ := mem_ready.1 hj
      have hnot : ∀ e ∈ oj.after, Region.binds md e = true → e.on ≠ i := fun e he hb heq => by
        have h1 := hall e he hb
        have h0 := (mem_ready.1 hr).1
        rw [heq] at h1
        rcases Nat.lt_or_ge i listed.size with h' | h'
        · simp [h'] at h0 h1; rw [h0] at h1; cases h1
        · simp [Array.getElem?_eq_none h'] at h1
      have h2 := wpOp_putIf hoj (hfree j oj hoj hji hjun hnot) (fun cs b => hsel i oi cs b hi) (fun cs b => hsel j oj cs b hoj) hQ hy h1
      have hfree' : ∀ k ok, ops[k]? = some ok → k ≠ i → (listed.setIfInBounds j true).getD k true = false →
          (∀ e ∈ ok.after, Region.binds md e = true → e.on ≠ i) → oi.apart ops ok = true := fun k ok hk hki hun hno => by
        refine hfree k ok hk hki ?_ hno
        by_cases hjk : j = k
        · subst hjk; exact hjun
        · rw [getD_set_ne true hjk] at hun; exact hun
      refine wpOp_mono (fun a' w' h3 => ⟨h3.2.1, ih (listed.setIfInBounds j true) a' w' hfree' (ready_mono hr (Ne.symm hji)) h3.1 (h3.2.1 hjz) ?_⟩) h2
      rw [Array.setIfInBounds_comm _ _ hji]
      exact h3.2.2
theorem wpAnyF_take {i : Nat} {oi : Oper} {v : Value} {fuel : Nat} {listed : Array Bool} {a : Act} {w : World} (hi : ops[i]? = some oi)
    (hs : Region.noSelect ops = true) (hf : Region.free md ops listed i = true) (hr : (Region.ready md ops listed).contains i = true) (hw : (waitsB md ops z i && !(i == z)) = true)
    (hQ : ∀ c a w, Q (.panic c) (a.put oi.dst v) w → Q (.panic c) a w) (hy : YieldsIf P ops S oi v a) (hS : S w)
    (h : wpAnyF P md ops Q S z fuel (listed.setIfInBounds i true) (a.put oi.dst v) w) : wpAnyF P md ops Q S z (fuel + 1) listed a w := by
  simp only [Bool.and_eq_true, Bool.not_eq_true', beq_eq_false_iff_ne] at hw
  exact wpAnyF_first hi (Region.noSelect_spec hs) hQ hw.1 hw.2 fuel listed a w (Region.free_spec hi hf) (by simpa using hr) hy hS h
def AllReadyF (P : Program) (md : Region.Mode) (ops : Array Oper) (Q : Exit → Act → World → Prop) (S : World → Prop) (z : Nat) (fuel : Nat) (listed : Array Bool) (a : Act) (w : World) (rs : List Nat) : Prop :=
  ∀ i ∈ rs, wpOp P ops Q i (fun a' w' => (i ≠ z → S w') ∧ wpAnyF P md ops Q S z fuel (listed.setIfInBounds i true) a' w') a w
theorem AllReadyF.nil {fuel : Nat} {listed : Array Bool} {a : Act} {w : World} : AllReadyF P md ops Q S z fuel listed a w [] := fun _ h => by cases h
theorem AllReadyF.cons {fuel : Nat} {listed : Array Bool} {a : Act} {w : World} {i : Nat} {o : Oper} {rs : List Nat} (ho : ops[i]? = some o)
    (h : ∀ K' : Act → World → Prop, Shut (∀ a w, S w → (S w → wpAnyF P md ops Q S z fuel (listed.setIfInBounds i true) a w) → K' a w) → if Region.wanted o (yielded ops a.tmps) = true then Oper.wp P o a w K' Q else K' (a.put o.dst undef) w)
    (hs : AllReadyF P md ops Q S z fuel listed a w rs) : AllReadyF P md ops Q S z fuel listed a w (i :: rs) := fun j hj => by
  rcases List.mem_cons.1 hj with rfl | hj
  · exact wpOp_step ho (fun K' hK => h K' (fun a w hS hW => hK a w ⟨fun _ => hS, hW hS⟩))
  · exact hs j hj
theorem AllReadyF.last {fuel : Nat} {listed : Array Bool} {a : Act} {w : World} {o : Oper} {rs : List Nat} (ho : ops[z]? = some o)
    (h : ∀ K' : Act → World → Prop, Shut (∀ a w, True → (True → wpAnyF P md ops Q S z fuel (listed.setIfInBounds z true) a w) → K' a w) → if Region.wanted o (yielded ops a.tmps) = true then Oper.wp P o a w K' Q else K' (a.put o.dst undef) w)
    (hs : AllReadyF P md ops Q S z fuel listed a w rs) : AllReadyF P md ops Q S z fuel listed a w (z :: rs) := fun j hj => by
  rcases List.mem_cons.1 hj with rfl | hj
  · exact wpOp_step ho (fun K' hK => h K' (fun a w _ hW => hK a w ⟨fun h => absurd rfl h, hW trivial⟩))
  · exact hs j hj
theorem wpAnyF_ready {rs : List Nat} {fuel : Nat} {listed : Array Bool} {a : Act} {w : World} (hr : Region.ready md ops listed = rs) (hne : rs ≠ [])
    (h : AllReadyF P md ops Q S z fuel listed a w rs) : wpAnyF P md ops Q S z (fuel + 1) listed a w := ⟨fun h0 => absurd (hr ▸ h0) hne, hr ▸ h⟩
theorem wpAnyF_done {listed : Array Bool} {a : Act} {w : World} (hr : Region.ready md ops listed = []) (h : Q .normal a w) : ∀ fuel, wpAnyF P md ops Q S z fuel listed a w
  | 0 => ⟨hr, h⟩
  | _ + 1 => ⟨fun _ => h, by rw [hr]; simp⟩
theorem wp_region_F {id : Nat} (z : Nat) (S : World → Prop) {a : Act} {w : World} (hm : P.follows .mixedOrders = true) (hS : S w.drew)
    (h : S w.drew → wpAnyF P .any ops Q S z ops.size (Array.replicate ops.size false) a w.drew) : (Code.region id ops true).wp P Q a w :=
  wp_region_any hm (wpAny_of_F _ _ _ _ (h hS))
end
end Go.Proofs.YtchfphakhmifmabGreatDoor
namespace Go.Proofs.YtchfphakhmifmabGreatDoor
open Go.ChangeShapes Go.WideShapes Go.ChangeAt Go.RowKit Go.Lib

def nmOk (c : Nat) : Bool := (decide (97 ≤ c) && decide (c ≤ 122)) || (decide (65 ≤ c) && decide (c ≤ 90)) || (decide (48 ≤ c) && decide (c ≤ 57)) || decide (c = 45) || decide (c = 58)
def nameL (s : ByteArray) (j : Nat) : List Nat := 110 :: ((lOf s).take j).filter nmOk
theorem nameL_len (s : ByteArray) (j : Nat) : (nameL s j).length ≤ j + 1 := by
  unfold nameL
  rw [List.length_cons]
  have h1 := List.length_filter_le nmOk ((lOf s).take j)
  have h2 : ((lOf s).take j).length ≤ j := by rw [List.length_take]; omega
  omega
theorem lOf_get (s : ByteArray) {j : Nat} (h : j < s.size) : (lOf s)[j]? = some (ch s j) := by
  unfold lOf ch
  rw [List.getElem?_map]
  have hl : j < s.data.toList.length := by rw [tl_len]; exact h
  rw [List.getElem?_eq_getElem hl]
  simp [List.getD, List.getElem?_eq_getElem hl]
theorem nameL_yes (s : ByteArray) {j : Nat} (h : j < s.size) (hc : nmOk (ch s j) = true) : nameL s (j + 1) = nameL s j ++ [ch s j] := by
  unfold nameL
  rw [List.take_add_one, lOf_get s h, List.filter_append]
  simp [hc]
theorem nameL_no (s : ByteArray) {j : Nat} (h : j < s.size) (hc : nmOk (ch s j) = false) : nameL s (j + 1) = nameL s j := by
  unfold nameL
  rw [List.take_add_one, lOf_get s h, List.filter_append]
  simp [hc]
set_option maxRecDepth 100000 in
set_option maxHeartbeats 4000000 in
theorem lname_any (s : ByteArray) (w : World) : Calls Tryz.prog 21 #[.string s] w fun e w' => ∃ t : ByteArray, e = .returned (.string t) ∧ t.size ≤ 100 ∧ Below w.heap.size w w' := by
  have kc := fun (w : World) (C : Array Value) (n c : Nat) => Lib.run_convert_bytes_const (P := Tryz.prog) w 59 5 C n c Tryz.underlying59 Tryz.underlying5
  go_enter Tryz.func21, Tryz.ntmps21
  go_wp2_with fail
  go_loopw [3, 4] (fun bv i wr => ∃ j : Nat, j ≤ s.size ∧ j ≤ 12 ∧ i = .int .i64 (j : Int) ∧ BufM wr w.heap.size bv (nameL s j) ∧ Below w.heap.size w wr) (fun _ i _ => 12 - (RowKit.intOf i).toNat)
  case atStart => exact ⟨0, Nat.zero_le _, Nat.zero_le _, rfl, BufM.lit w _ _ _ rfl _ rfl _ (Nat.le_refl _), (Below.refl _ _).alloc (Nat.le_refl _) _⟩
  case round =>
    obtain ⟨j, hj, hj12, rfl, hB, hb⟩ := hrel
    by_cases hlt : j < s.size ∧ j < 12
    · have t1 : (j : Int) < s.size := by omega
      have t2 : (j : Int) < 12 := by omega
      have hix := fun w => nidx (w := w) s j hlt.1 .i64
      have hlen := nameL_len s j
      have h255 := ch_lt s j
      obtain ⟨v', w', hrun, hB', hb'⟩ := bufm_one hB (ch s j) (by omega) hb.size
      clear hlen
      by_cases hc0 : 0 ≤ ch s j ∧ ch s j ≤ 44
      · obtain ⟨hlo, hhi⟩ := hc0
        have f0 : ¬ (97 : Int) ≤ (ch s j : Int) := by omega
        have f1 : (ch s j : Int) ≤ 122 := by omega
        have f2 : ¬ (65 : Int) ≤ (ch s j : Int) := by omega
        have f3 : (ch s j : Int) ≤ 90 := by omega
        have f4 : ¬ (48 : Int) ≤ (ch s j : Int) := by omega
        have f5 : (ch s j : Int) ≤ 57 := by omega
        have f6 : ¬ (ch s j : Int) = 45 := by omega
        have g6 : ((ch s j : Int) == 45) = false := beq_eq_false_iff_ne.2 f6
        have f7 : ¬ (ch s j : Int) = 58 := by omega
        have g7 : ((ch s j : Int) == 58) = false := beq_eq_false_iff_ne.2 f7
        have hno : nmOk (ch s j) = false := by unfold nmOk; simp; omega
        have hz := nameL_no s hlt.1 hno
        clear hno hlo hhi hrun hB' hb'
        go_wp2_with fail
        go_roundw
        case rel => exact ⟨j + 1, by omega, by omega, by go_num, by rw [hz]; exact hB, hb⟩
        case measure => simp [RowKit.intOf]; omega
      by_cases hc1 : 45 ≤ ch s j ∧ ch s j ≤ 45
      · obtain ⟨hlo, hhi⟩ := hc1
        have f0 : ¬ (97 : Int) ≤ (ch s j : Int) := by omega
        have f1 : (ch s j : Int) ≤ 122 := by omega
        have f2 : ¬ (65 : Int) ≤ (ch s j : Int) := by omega
        have f3 : (ch s j : Int) ≤ 90 := by omega
        have f4 : ¬ (48 : Int) ≤ (ch s j : Int) := by omega
        have f5 : (ch s j : Int) ≤ 57 := by omega
        have f6 : (ch s j : Int) = 45 := by omega
        have g6 : ((ch s j : Int) == 45) = true := beq_iff_eq.2 f6
        have f7 : ¬ (ch s j : Int) = 58 := by omega
        have g7 : ((ch s j : Int) == 58) = false := beq_eq_false_iff_ne.2 f7
        rw [f6] at hrun
        have hno : nmOk (ch s j) = true := by unfold nmOk; simp; omega
        have hz := nameL_yes s hlt.1 hno
        clear hno hlo hhi
        go_wp2_with (at_builtin; refine (wpList_append_ex (by rfl) _ _ _ _ (by rfl) _ _ (by rfl) (by rfl) (fun a b => a = v' ∧ b = w') ⟨v', w', hrun, rfl, rfl⟩ ?_); rintro _ _ ⟨rfl, rfl⟩)
        go_roundw
        case rel => exact ⟨j + 1, by omega, by omega, by go_num, by rw [hz]; exact hB', hb.trans hb'⟩
        case measure => simp [RowKit.intOf]; omega
      by_cases hc2 : 46 ≤ ch s j ∧ ch s j ≤ 47
      · obtain ⟨hlo, hhi⟩ := hc2
        have f0 : ¬ (97 : Int) ≤ (ch s j : Int) := by omega
        have f1 : (ch s j : Int) ≤ 122 := by omega
        have f2 : ¬ (65 : Int) ≤ (ch s j : Int) := by omega
        have f3 : (ch s j : Int) ≤ 90 := by omega
        have f4 : ¬ (48 : Int) ≤ (ch s j : Int) := by omega
        have f5 : (ch s j : Int) ≤ 57 := by omega
        have f6 : ¬ (ch s j : Int) = 45 := by omega
        have g6 : ((ch s j : Int) == 45) = false := beq_eq_false_iff_ne.2 f6
        have f7 : ¬ (ch s j : Int) = 58 := by omega
        have g7 : ((ch s j : Int) == 58) = false := beq_eq_false_iff_ne.2 f7
        have hno : nmOk (ch s j) = false := by unfold nmOk; simp; omega
        have hz := nameL_no s hlt.1 hno
        clear hno hlo hhi hrun hB' hb'
        go_wp2_with fail
        go_roundw
        case rel => exact ⟨j + 1, by omega, by omega, by go_num, by rw [hz]; exact hB, hb⟩
        case measure => simp [RowKit.intOf]; omega
      by_cases hc3 : 48 ≤ ch s j ∧ ch s j ≤ 57
      · obtain ⟨hlo, hhi⟩ := hc3
        have f0 : ¬ (97 : Int) ≤ (ch s j : Int) := by omega
        have f1 : (ch s j : Int) ≤ 122 := by omega
        have f2 : ¬ (65 : Int) ≤ (ch s j : Int) := by omega
        have f3 : (ch s j : Int) ≤ 90 := by omega
        have f4 : (48 : Int) ≤ (ch s j : Int) := by omega
        have f5 : (ch s j : Int) ≤ 57 := by omega
        have f6 : ¬ (ch s j : Int) = 45 := by omega
        have g6 : ((ch s j : Int) == 45) = false := beq_eq_false_iff_ne.2 f6
        have f7 : ¬ (ch s j : Int) = 58 := by omega
        have g7 : ((ch s j : Int) == 58) = false := beq_eq_false_iff_ne.2 f7
        have hno : nmOk (ch s j) = true := by unfold nmOk; simp; omega
        have hz := nameL_yes s hlt.1 hno
        clear hno hlo hhi
        go_wp2_with (at_builtin; refine (wpList_append_ex (by rfl) _ _ _ _ (by rfl) _ _ (by rfl) (by rfl) (fun a b => a = v' ∧ b = w') ⟨v', w', hrun, rfl, rfl⟩ ?_); rintro _ _ ⟨rfl, rfl⟩)
        go_roundw
        case rel => exact ⟨j + 1, by omega, by omega, by go_num, by rw [hz]; exact hB', hb.trans hb'⟩
        case measure => simp [RowKit.intOf]; omega
      by_cases hc4 : 58 ≤ ch s j ∧ ch s j ≤ 58
      · obtain ⟨hlo, hhi⟩ := hc4
        have f0 : ¬ (97 : Int) ≤ (ch s j : Int) := by omega
        have f1 : (ch s j : Int) ≤ 122 := by omega
        have f2 : ¬ (65 : Int) ≤ (ch s j : Int) := by omega
        have f3 : (ch s j : Int) ≤ 90 := by omega
        have f4 : (48 : Int) ≤ (ch s j : Int) := by omega
        have f5 : ¬ (ch s j : Int) ≤ 57 := by omega
        have f6 : ¬ (ch s j : Int) = 45 := by omega
        have g6 : ((ch s j : Int) == 45) = false := beq_eq_false_iff_ne.2 f6
        have f7 : (ch s j : Int) = 58 := by omega
        have g7 : ((ch s j : Int) == 58) = true := beq_iff_eq.2 f7
        rw [f7] at hrun
        have hno : nmOk (ch s j) = true := by unfold nmOk; simp; omega
        have hz := nameL_yes s hlt.1 hno
        clear hno hlo hhi
        go_wp2_with (at_builtin; refine (wpList_append_ex (by rfl) _ _ _ _ (by rfl) _ _ (by rfl) (by rfl) (fun a b => a = v' ∧ b = w') ⟨v', w', hrun, rfl, rfl⟩ ?_); rintro _ _ ⟨rfl, rfl⟩)
        go_roundw
        case rel => exact ⟨j + 1, by omega, by omega, by go_num, by rw [hz]; exact hB', hb.trans hb'⟩
        case measure => simp [RowKit.intOf]; omega
      by_cases hc5 : 59 ≤ ch s j ∧ ch s j ≤ 64
      · obtain ⟨hlo, hhi⟩ := hc5
        have f0 : ¬ (97 : Int) ≤ (ch s j : Int) := by omega
        have f1 : (ch s j : Int) ≤ 122 := by omega
        have f2 : ¬ (65 : Int) ≤ (ch s j : Int) := by omega
        have f3 : (ch s j : Int) ≤ 90 := by omega
        have f4 : (48 : Int) ≤ (ch s j : Int) := by omega
        have f5 : ¬ (ch s j : Int) ≤ 57 := by omega
        have f6 : ¬ (ch s j : Int) = 45 := by omega
        have g6 : ((ch s j : Int) == 45) = false := beq_eq_false_iff_ne.2 f6
        have f7 : ¬ (ch s j : Int) = 58 := by omega
        have g7 : ((ch s j : Int) == 58) = false := beq_eq_false_iff_ne.2 f7
        have hno : nmOk (ch s j) = false := by unfold nmOk; simp; omega
        have hz := nameL_no s hlt.1 hno
        clear hno hlo hhi hrun hB' hb'
        go_wp2_with fail
        go_roundw
        case rel => exact ⟨j + 1, by omega, by omega, by go_num, by rw [hz]; exact hB, hb⟩
        case measure => simp [RowKit.intOf]; omega
      by_cases hc6 : 65 ≤ ch s j ∧ ch s j ≤ 90
      · obtain ⟨hlo, hhi⟩ := hc6
        have f0 : ¬ (97 : Int) ≤ (ch s j : Int) := by omega
        have f1 : (ch s j : Int) ≤ 122 := by omega
        have f2 : (65 : Int) ≤ (ch s j : Int) := by omega
        have f3 : (ch s j : Int) ≤ 90 := by omega
        have f4 : (48 : Int) ≤ (ch s j : Int) := by omega
        have f5 : ¬ (ch s j : Int) ≤ 57 := by omega
        have f6 : ¬ (ch s j : Int) = 45 := by omega
        have g6 : ((ch s j : Int) == 45) = false := beq_eq_false_iff_ne.2 f6
        have f7 : ¬ (ch s j : Int) = 58 := by omega
        have g7 : ((ch s j : Int) == 58) = false := beq_eq_false_iff_ne.2 f7
        have hno : nmOk (ch s j) = true := by unfold nmOk; simp; omega
        have hz := nameL_yes s hlt.1 hno
        clear hno hlo hhi
        go_wp2_with (at_builtin; refine (wpList_append_ex (by rfl) _ _ _ _ (by rfl) _ _ (by rfl) (by rfl) (fun a b => a = v' ∧ b = w') ⟨v', w', hrun, rfl, rfl⟩ ?_); rintro _ _ ⟨rfl, rfl⟩)
        go_roundw
        case rel => exact ⟨j + 1, by omega, by omega, by go_num, by rw [hz]; exact hB', hb.trans hb'⟩
        case measure => simp [RowKit.intOf]; omega
      by_cases hc7 : 91 ≤ ch s j ∧ ch s j ≤ 96
      · obtain ⟨hlo, hhi⟩ := hc7
        have f0 : ¬ (97 : Int) ≤ (ch s j : Int) := by omega
        have f1 : (ch s j : Int) ≤ 122 := by omega
        have f2 : (65 : Int) ≤ (ch s j : Int) := by omega
        have f3 : ¬ (ch s j : Int) ≤ 90 := by omega
        have f4 : (48 : Int) ≤ (ch s j : Int) := by omega
        have f5 : ¬ (ch s j : Int) ≤ 57 := by omega
        have f6 : ¬ (ch s j : Int) = 45 := by omega
        have g6 : ((ch s j : Int) == 45) = false := beq_eq_false_iff_ne.2 f6
        have f7 : ¬ (ch s j : Int) = 58 := by omega
        have g7 : ((ch s j : Int) == 58) = false := beq_eq_false_iff_ne.2 f7
        have hno : nmOk (ch s j) = false := by unfold nmOk; simp; omega
        have hz := nameL_no s hlt.1 hno
        clear hno hlo hhi hrun hB' hb'
        go_wp2_with fail
        go_roundw
        case rel => exact ⟨j + 1, by omega, by omega, by go_num, by rw [hz]; exact hB, hb⟩
        case measure => simp [RowKit.intOf]; omega
      by_cases hc8 : 97 ≤ ch s j ∧ ch s j ≤ 122
      · obtain ⟨hlo, hhi⟩ := hc8
        have f0 : (97 : Int) ≤ (ch s j : Int) := by omega
        have f1 : (ch s j : Int) ≤ 122 := by omega
        have f2 : (65 : Int) ≤ (ch s j : Int) := by omega
        have f3 : ¬ (ch s j : Int) ≤ 90 := by omega
        have f4 : (48 : Int) ≤ (ch s j : Int) := by omega
        have f5 : ¬ (ch s j : Int) ≤ 57 := by omega
        have f6 : ¬ (ch s j : Int) = 45 := by omega
        have g6 : ((ch s j : Int) == 45) = false := beq_eq_false_iff_ne.2 f6
        have f7 : ¬ (ch s j : Int) = 58 := by omega
        have g7 : ((ch s j : Int) == 58) = false := beq_eq_false_iff_ne.2 f7
        have hno : nmOk (ch s j) = true := by unfold nmOk; simp; omega
        have hz := nameL_yes s hlt.1 hno
        clear hno hlo hhi
        go_wp2_with (at_builtin; refine (wpList_append_ex (by rfl) _ _ _ _ (by rfl) _ _ (by rfl) (by rfl) (fun a b => a = v' ∧ b = w') ⟨v', w', hrun, rfl, rfl⟩ ?_); rintro _ _ ⟨rfl, rfl⟩)
        go_roundw
        case rel => exact ⟨j + 1, by omega, by omega, by go_num, by rw [hz]; exact hB', hb.trans hb'⟩
        case measure => simp [RowKit.intOf]; omega
      have hlo : 123 ≤ ch s j := by omega
      have hhi : ch s j ≤ 255 := by omega
      have f0 : (97 : Int) ≤ (ch s j : Int) := by omega
      have f1 : ¬ (ch s j : Int) ≤ 122 := by omega
      have f2 : (65 : Int) ≤ (ch s j : Int) := by omega
      have f3 : ¬ (ch s j : Int) ≤ 90 := by omega
      have f4 : (48 : Int) ≤ (ch s j : Int) := by omega
      have f5 : ¬ (ch s j : Int) ≤ 57 := by omega
      have f6 : ¬ (ch s j : Int) = 45 := by omega
      have g6 : ((ch s j : Int) == 45) = false := beq_eq_false_iff_ne.2 f6
      have f7 : ¬ (ch s j : Int) = 58 := by omega
      have g7 : ((ch s j : Int) == 58) = false := beq_eq_false_iff_ne.2 f7
      have hno : nmOk (ch s j) = false := by unfold nmOk; simp; omega
      have hz := nameL_no s hlt.1 hno
      clear hno hlo hhi hrun hB' hb'
      go_wp2_with fail
      go_roundw
      case rel => exact ⟨j + 1, by omega, by omega, by go_num, by rw [hz]; exact hB, hb⟩
      case measure => simp [RowKit.intOf]; omega
    · have hc := hB.conv
      have hz : (sOf (nameL s j)).size ≤ 100 := by rw [sOf_size]; have := nameL_len s j; omega
      by_cases h1 : j < s.size
      · have t1 : (j : Int) < s.size := by omega
        have t2 : ¬ (j : Int) < 12 := by omega
        go_wp2_with fail
        go_ret
        exact ⟨_, rfl, hz, hb⟩
      · have t1 : ¬ (j : Int) < s.size := by omega
        go_wp2_with fail
        go_ret
        exact ⟨_, rfl, hz, hb⟩
theorem lslice_to (s : ByteArray) (k : Nat) (hk : k ≤ s.size) (w : World) : (Instr.slice 9 (.string s) none (some (.int .i64 (k : Int))) none).run Tryz.prog w = .ok (.string (s.extract 0 k)) w := by
  rw [run_slice_string_to_if w 9 s .i64 k Tryz.underlying9, if_pos ⟨by omega, by omega⟩, Int.toNat_natCast]
theorem nnum_any (e : Int) (w : World) : Calls Tryz.prog 12 #[.int .i64 e] w fun r w' => r = .returned (.int .i64 e) ∧ w' = w := by
  go_enter Tryz.func12, Tryz.ntmps12
  go_wp2_with fail
  go_ret
  exact ⟨rfl, rfl⟩
set_option maxHeartbeats 4000000 in
theorem lvalue_any (s : ByteArray) (hs : s.size ≤ 9223372036854775807) (w : World) : Calls Tryz.prog 22 #[.string s] w fun e w' => ∃ t : ByteArray, e = .returned (.string t) ∧ Below w.heap.size w w' := by
  have cC := Chars_all s w hs
  generalize (faultN xmlB s).1 = er at cC
  generalize (faultN xmlB s).2 = p at cC
  have p0 : (0 : Int) ≤ p := by omega
  by_cases h0 : er = 0
  · subst h0
    by_cases h4 : (40 : Int) < s.size
    · go_enter Tryz.func22, Tryz.ntmps22
      go_wp2_with (first | (go_at_call 39; refine cC.mono ?_; rintro _ w1 ⟨rfl, hb⟩) | (go_at_call 12; refine (nnum_any _ _).mono ?_; rintro _ w' ⟨rfl, hw'⟩; replace hw' := hw'.symm; subst hw'))
      go_ret
      exact ⟨_, rfl, hb⟩
    · go_enter Tryz.func22, Tryz.ntmps22
      go_wp2_with (first | (go_at_call 39; refine cC.mono ?_; rintro _ w1 ⟨rfl, hb⟩) | (go_at_call 12; refine (nnum_any _ _).mono ?_; rintro _ w' ⟨rfl, hw'⟩; replace hw' := hw'.symm; subst hw'))
      go_ret
      exact ⟨_, rfl, hb⟩
  · have z1 : ¬ (er : Int) = 0 := by omega
    have z2 : ((er : Int) == 0) = false := beq_eq_false_iff_ne.2 z1
    by_cases hp : p ≤ s.size
    · have hp' : (p : Int) ≤ s.size := by omega
      have hsl := fun w => lslice_to s p hp w
      have hz : (s.extract 0 p).size = p := by rw [ByteArray.size_extract]; omega
      by_cases h4 : (40 : Int) < p
      · go_enter Tryz.func22, Tryz.ntmps22
        go_wp2_with (first | (go_at_call 39; refine cC.mono ?_; rintro _ w1 ⟨rfl, hb⟩) | (go_at_call 12; refine (nnum_any _ _).mono ?_; rintro _ w' ⟨rfl, hw'⟩; replace hw' := hw'.symm; subst hw'))
        go_ret
        exact ⟨_, rfl, hb⟩
      · go_enter Tryz.func22, Tryz.ntmps22
        go_wp2_with (first | (go_at_call 39; refine cC.mono ?_; rintro _ w1 ⟨rfl, hb⟩) | (go_at_call 12; refine (nnum_any _ _).mono ?_; rintro _ w' ⟨rfl, hw'⟩; replace hw' := hw'.symm; subst hw'))
        go_ret
        exact ⟨_, rfl, hb⟩
    · have hp' : ¬ (p : Int) ≤ s.size := by omega
      by_cases h4 : (40 : Int) < s.size
      · go_enter Tryz.func22, Tryz.ntmps22
        go_wp2_with (first | (go_at_call 39; refine cC.mono ?_; rintro _ w1 ⟨rfl, hb⟩) | (go_at_call 12; refine (nnum_any _ _).mono ?_; rintro _ w' ⟨rfl, hw'⟩; replace hw' := hw'.symm; subst hw'))
        go_ret
        exact ⟨_, rfl, hb⟩
      · go_enter Tryz.func22, Tryz.ntmps22
        go_wp2_with (first | (go_at_call 39; refine cC.mono ?_; rintro _ w1 ⟨rfl, hb⟩) | (go_at_call 12; refine (nnum_any _ _).mono ?_; rintro _ w' ⟨rfl, hw'⟩; replace hw' := hw'.symm; subst hw'))
        go_ret
        exact ⟨_, rfl, hb⟩
end Go.Proofs.YtchfphakhmifmabGreatDoor
namespace Go.Proofs.YtchfphakhmifmabGreatDoor
open Go.ChangeShapes Go.WideShapes Go.ChangeAt Go.RowKit Go.Lib

/-- A tree's Depths. -/
structure Dep (es : List El) : Prop where
  z : ∀ e, es[0]? = some e → e.d = 1
  s : ∀ k a b, es[k]? = some a → es[k + 1]? = some b → 2 ≤ b.d ∧ b.d ≤ a.d + 1
structure Sd where
  d : Int
  nm : ByteArray
  ats : List ByteArray
  tx : ByteArray
/-- Texts in memory, handed in. -/
structure SRo (w : World) (pp : Option Addr) (H : Nat) (ss : List ByteArray) : Prop where
  c : ∀ (i : Nat) (s : ByteArray), ss[i]? = some s → ∃ g o, pp = some ⟨g, o, none⟩ ∧ g < H ∧ w.cell? ⟨g, o + i, none⟩ = some (.string s)
/-- Seeds in memory, handed in. -/
structure SdRow (w : World) (pp : Option Addr) (H : Nat) (sd : List Sd) : Prop where
  c : ∀ (i : Nat) (e : Sd), sd[i]? = some e → ∃ g o pa ca, pp = some ⟨g, o, none⟩ ∧ g < H ∧ w.cell? ⟨g, o + i * 4, none⟩ = some (.int .i64 e.d) ∧ w.cell? ⟨g, o + i * 4 + 1, none⟩ = some (.string e.nm) ∧ w.cell? ⟨g, o + i * 4 + 2, none⟩ = some (.slice pa e.ats.length ca) ∧ w.cell? ⟨g, o + i * 4 + 3, none⟩ = some (.string e.tx) ∧ SRo w pa H e.ats
structure SdOk (sd : List Sd) : Prop where
  l : sd.length ≤ 140737488351232
  e : ∀ e ∈ sd, e.ats.length ≤ 140737488351232 ∧ (-9223372036854775808 ≤ e.d ∧ e.d ≤ 9223372036854775807) ∧ e.nm.size ≤ 9223372036854775807 ∧ e.tx.size ≤ 9223372036854775807 ∧ ∀ s ∈ e.ats, s.size ≤ 9223372036854775807
/-- The elements made so far: rows of one's own. -/
structure MD (W : World) (bot : Nat) (vE : Value) (f : Nat → Rw) (ex : List Elx) : Prop where
  pf : PF W bot f
  f0 : f 0 = elR vE ex
  fa : ∀ i x, ex[i]? = some x → f (1 + i) = atR x
  dp : Dep (ex.map Elx.e)
  d6 : ∀ x ∈ ex, 1 ≤ x.e.d ∧ x.e.d ≤ 16
theorem MD.below {W W' : World} {bot : Nat} {vE : Value} {f : Nat → Rw} {ex : List Elx} (h : MD W bot vE f ex) (hb : Below W.heap.size W W') : MD W' bot vE f ex := ⟨h.pf.keep hb, h.f0, h.fa, h.dp, h.d6⟩
theorem MD.own {W : World} {bot : Nat} {vE : Value} {f : Nat → Rw} {ex : List Elx} (h : MD W bot vE f ex) : W.ownsRow bot 32 5 vE ex.length (ex.flatMap elC) := by
  have := h.pf.own 0
  rw [h.f0] at this
  exact this
def rootX : Elx := ⟨⟨1, ⟨#[114, 111, 111, 116]⟩, [], ⟨#[]⟩, 0⟩, .slice none 0 0⟩
def rootF (g : Nat) : Nat → Rw := fun c => if c = 0 then elR (.slice (some ⟨g, 0, none⟩) 1 1) [rootX] else ⟨54, 3, .slice none 0 0, 0, []⟩
theorem MD.root (w : World) : MD (w.alloc (.cells #[.int .i64 1, .string ⟨#[114, 111, 111, 116]⟩, .slice none 0 0, .string ⟨#[]⟩, .int .i64 0] 32)) w.heap.size (.slice (some ⟨w.heap.size, 0, none⟩) 1 1) (rootF w.heap.size) [rootX] := by
  refine ⟨⟨fun c => ?_, fun c c' hne k h1 h2 => ?_⟩, rfl, fun i x hx => ?_, ⟨fun e he => ?_, fun k a b ha hb => ?_⟩, fun x hx => ?_⟩
  · unfold Rw.own rootF
    by_cases h : c = 0
    · rw [if_pos h]
      refine ⟨rfl, .inr ⟨w.heap.size, 1, _, rfl, Nat.le_refl _, theap_new w _, Nat.le_refl _, by unfold maxLen; decide, rfl, rfl⟩⟩
    · rw [if_neg h]; exact World.ownsRow_nil _ _ _ _
  · unfold rootF at h1 h2
    by_cases h : c = 0
    · rw [if_neg (by omega)] at h2; cases h2
    · rw [if_neg h] at h1; cases h1
  · cases i with
    | zero => cases hx; rfl
    | succ i => cases hx
  · cases he; rfl
  · cases hb
  · rcases List.mem_singleton.1 hx with rfl
    exact ⟨by decide, by decide⟩
/-- The last element's Depth. -/
theorem MD.last {W : World} {bot : Nat} {vE : Value} {f : Nat → Rw} {ex : List Elx} {k : Nat} (h : MD W bot vE f ex) (hl : ex.length = k + 1) : ∃ g c D x, vE = .slice (some ⟨g, 0, none⟩) (k + 1) c ∧ W.cell? ⟨g, k * 5, none⟩ = some (.int .i64 D) ∧ g < W.heap.size ∧ bot ≤ g ∧ ex[k]? = some x ∧ x.e.d = D ∧ 1 ≤ D ∧ D ≤ 16 := by
  obtain ⟨g, c, e⟩ := own_shape h.own (by omega)
  obtain ⟨x, hx⟩ : ∃ x, ex[k]? = some x := ⟨ex[k], List.getElem?_eq_getElem (by omega)⟩
  have hg := own_get (e ▸ h.own) (o := k * 5 + 0) (flat_get elC 5 elC_len ex k x hx 0 (by decide))
  have hd := h.d6 x (List.mem_of_getElem? hx)
  rw [hl] at e
  exact ⟨g, c, x.e.d, x, e, hg.1, hg.2.2.2, hg.2.2.1, hx, rfl, hd.1, hd.2⟩
/-- .. with one more. -/
theorem dep_snoc {es : List El} {k : Nat} {a b : El} (h : Dep es) (hl : es.length = k + 1) (ha : es[k]? = some a) (h2 : 2 ≤ b.d) (hb : b.d ≤ a.d + 1) : Dep (es ++ [b]) := by
  refine ⟨fun e he => h.z e ?_, fun i x y hx hy => ?_⟩
  · rwa [List.getElem?_append_left (by omega)] at he
  · by_cases hi : i + 1 < es.length
    · rw [List.getElem?_append_left (by omega)] at hx hy
      exact h.s i x y hx hy
    · have hlt := (List.getElem?_eq_some_iff.1 hy).1
      rw [List.length_append, List.length_singleton] at hlt
      obtain rfl : i = k := by omega
      rw [List.getElem?_append_left (by omega), ha] at hx
      rw [List.getElem?_append_right (by omega), hl, Nat.sub_self] at hy
      cases hx; cases hy
      exact ⟨h2, hb⟩
/-- The element under way: its box, the row of its attributes. -/
structure MX (W : World) (bot : Nat) (vE : Value) (f : Nat → Rw) (ex : List Elx) (X : Nat) (x : Elx) : Prop where
  pf : PF W bot f
  f0 : f 0 = elR vE ex
  fa : ∀ i y, ex[i]? = some y → f (1 + i) = atR y
  fx : f (1 + ex.length) = atR x
  b : W.heap[X]? = some (.cells #[.int .i64 x.e.d, .string x.e.nm, x.av, .string x.e.tx, .int .i64 x.e.p] 32 (0, 0))
  ap : ∀ c, (f c).v.ownBlock ≠ some X
  hX : bot ≤ X
theorem MX.below {W W' : World} {bot : Nat} {vE : Value} {f : Nat → Rw} {ex : List Elx} {X : Nat} {x : Elx} (h : MX W bot vE f ex X x) (hb : Below W.heap.size W W') : MX W' bot vE f ex X x :=
  ⟨h.pf.keep hb, h.f0, h.fa, h.fx, (hb.block X (Array.getElem?_eq_some_iff.1 h.b).1).trans h.b, h.ap, h.hX⟩
theorem MD.box {W W' : World} {bot X : Nat} {vE : Value} {f : Nat → Rw} {ex : List Elx} {z : Int} {t1 t2 : ByteArray} (h : MD W bot vE f ex) (hb : Below W.heap.size W W') (hX : W.heap.size ≤ X) (hbot : bot ≤ W.heap.size) (hx : W'.heap[X]? = some (.cells #[.int .i64 z, .string t1, .slice none 0 0, .string t2, .int .i64 0] 32 (0, 0))) :
    MX W' bot vE (upF f (1 + ex.length) ⟨54, 3, .slice none 0 0, 0, []⟩) ex X ⟨⟨z, t1, [], t2, 0⟩, .slice none 0 0⟩ := by
  refine ⟨(h.pf.keep hb).nil _ rfl rfl rfl, ?_, fun i y hy => ?_, upF_same _ _ _, hx, fun c e => ?_, by omega⟩
  · rw [upF_ne _ _ _ (by omega)]; exact h.f0
  · have := (List.getElem?_eq_some_iff.1 hy).1
    rw [upF_ne _ _ _ (by omega)]; exact h.fa i y hy
  · by_cases hc : c = 1 + ex.length
    · subst hc; rw [upF_same] at e; cases e
    · rw [upF_ne _ _ _ hc] at e
      have := (h.pf.lt c e).2
      omega
theorem hset_at {W : World} {g o : Nat} {cs : Array Value} {t : TypeId} (h : W.heap[g]? = some (.cells cs t (0, 0))) (u : Value) : (W.setCell ⟨g, o, none⟩ u).heap[g]? = some (.cells (cs.setIfInBounds o u) t (0, 0)) := by
  have e : (W.setCell ⟨g, o, none⟩ u).heap = W.heap.modify g (fun x => match x with
    | .cells cs t f => .cells (cs.setIfInBounds o u) t f
    | x => x) := rfl
  rw [e, Array.getElem?_modify, if_pos rfl, h]
  rfl
theorem PF.far {W : World} {bot X o : Nat} {u : Value} {f : Nat → Rw} (h : PF W bot f) (ha : ∀ c, (f c).v.ownBlock ≠ some X) : PF (W.setCell ⟨X, o, none⟩ u) bot f :=
  ⟨fun c => ownSame (h.own c) fun k hk => Below.heap_setCell _ _ _ _ fun e => ha c (by rw [hk, e]), h.apart⟩
/-- One more attribute: what the append leaves, and the store. -/
abbrev attO (t u : ByteArray) : Obj := .cells #[.string t, .string u, .int .i64 0] 54
theorem MX.attr {W : World} {bot : Nat} {vE : Value} {f : Nat → Rw} {ex : List Elx} {X : Nat} {x : Elx} {pa : Option Addr} {n ca : Nat} (h : MX W bot vE f ex X x) (hx : x.av = .slice pa n ca) (hn : x.e.ats.length = n) (h24 : n ≤ 24) (hbot : bot ≤ W.heap.size) (t u : ByteArray) :
    ∃ p3 c3 w3, (∀ ty, (Builtin.append_ #[30, 30] ty #[.slice pa n ca, .slice (some ⟨W.heap.size, 0, none⟩) 1 1]).run Tryz.prog (W.alloc (attO t u)) = .ok (.slice p3 (n + 1) c3) w3) ∧ w3.cell? ⟨X, 2, none⟩ = some (.slice pa n ca) ∧ w3.frozen? ⟨X, 2, none⟩ = false ∧
      Below bot W (w3.setCell ⟨X, 2, none⟩ (.slice p3 (n + 1) c3)) ∧ ∃ f', MX (w3.setCell ⟨X, 2, none⟩ (.slice p3 (n + 1) c3)) bot vE f' ex X ⟨⟨x.e.d, x.e.nm, x.e.ats ++ [⟨t, u, 0⟩], x.e.tx, x.e.p⟩, .slice p3 (n + 1) c3⟩ := by
  have hb1 := bel1 W (attO t u)
  have h1 := h.below hb1
  have hO : (W.alloc (attO t u)).ownsRow bot 54 3 (.slice pa n ca) n (attCells x.e.ats) := by
    have := h1.pf.own (1 + ex.length)
    rw [h1.fx] at this
    unfold Rw.own atR at this
    rw [hx, hn] at this
    exact this
  have hfv : (f (1 + ex.length)).v = .slice pa n ca := by rw [h.fx, ← hx]; rfl
  obtain ⟨v3, w3, q1, q2, q3, q4⟩ := ap1 (t := 30) Tryz.underlying30 infoAt rfl (by decide) hO (theap_new W (attO t u)) rfl (fun u hu => by simp only [List.mem_cons, List.not_mem_nil, or_false] at hu; rcases hu with rfl | rfl | rfl <;> rfl) (by omega) (by decide) (Nat.le_trans hbot hb1.size)
  obtain ⟨p3, c3, rfl⟩ := own_sl q2
  have hXl : X < (W.alloc (attO t u)).heap.size := (Array.getElem?_eq_some_iff.1 h1.b).1
  have hk : w3.heap[X]? = (W.alloc (attO t u)).heap[X]? := q3.block X hXl fun e => h1.ap (1 + ex.length) (by rw [hfv]; exact e.symm)
  have hg : ∀ k, (Value.slice pa n ca).ownBlock = some k → bot ≤ k := fun k hk => (ownLt hO hk).1
  have hP := pf_app h1.pf (Below.refl _ _) (1 + ex.length) (W' := w3) (r := atR ⟨⟨x.e.d, x.e.nm, x.e.ats ++ [⟨t, u, 0⟩], x.e.tx, x.e.p⟩, .slice p3 (n + 1) c3⟩) (by
    unfold Rw.own atR attCells
    rw [List.length_append, List.flatMap_append, hn]
    exact q2) (by rw [hfv]; exact q3) (by rw [hfv]; exact q4)
  have hc : w3.heap[X]? = some (.cells #[.int .i64 x.e.d, .string x.e.nm, .slice pa n ca, .string x.e.tx, .int .i64 x.e.p] 32 (0, 0)) := by rw [hk, h1.b, hx]
  have hap : ∀ c, (upF f (1 + ex.length) (atR ⟨⟨x.e.d, x.e.nm, x.e.ats ++ [⟨t, u, 0⟩], x.e.tx, x.e.p⟩, .slice p3 (n + 1) c3⟩) c).v.ownBlock ≠ some X := fun c e => by
    by_cases hcc : c = 1 + ex.length
    · subst hcc
      rw [upF_same] at e
      rcases q4 with q | q
      · exact h1.ap (1 + ex.length) (by rw [hfv, ← q]; exact e)
      · have e' : (Value.slice p3 (n + 1) c3).ownBlock = some X := e
        rw [q] at e'
        injection e' with e'
        omega
    · rw [upF_ne _ _ _ hcc] at e
      exact h1.ap c e
  refine ⟨p3, c3, w3, q1, by simp only [World.cell?, hc]; rfl, by simp only [World.frozen?, hc]; simp, ?_, _, hP.far hap, ?_, fun i y hy => ?_, upF_same _ _ _, ?_, hap, h.hX⟩
  · exact (((hb1.mono hbot).trans (Below.refl bot _)).grown q3 (Nat.le_trans hbot hb1.size) hg).setCell h.hX _
  · rw [upF_ne _ _ _ (by omega)]; exact h.f0
  · have := (List.getElem?_eq_some_iff.1 hy).1
    rw [upF_ne _ _ _ (by omega)]; exact h.fa i y hy
  · rw [hset_at hc]
    rfl
/-- The element goes behind the others. -/
theorem MX.done {W : World} {bot : Nat} {vE : Value} {f : Nat → Rw} {ex : List Elx} {X k : Nat} {x : Elx} (h : MX W bot vE f ex X x) (hl : ex.length = k + 1) (hk : k ≤ 100) (hbot : bot ≤ W.heap.size) (hdp : Dep (ex.map Elx.e)) (hd6 : ∀ x ∈ ex, 1 ≤ x.e.d ∧ x.e.d ≤ 16) {y : Elx} (hy : ex[k]? = some y) (h2 : 2 ≤ x.e.d) (h3 : x.e.d ≤ y.e.d + 1) (h16 : x.e.d ≤ 16) :
    ∃ p3 c3 w3, (∀ ty, (Builtin.append_ #[24, 24] ty #[vE, .slice (some ⟨W.heap.size, 0, none⟩) 1 1]).run Tryz.prog (W.alloc (.cells #[.int .i64 x.e.d, .string x.e.nm, x.av, .string x.e.tx, .int .i64 x.e.p] 32)) = .ok (.slice p3 (k + 1 + 1) c3) w3) ∧ Below bot W w3 ∧ ∃ f', MD w3 bot (.slice p3 (k + 1 + 1) c3) f' (ex ++ [x]) := by
  have hb1 := bel1 W (.cells #[.int .i64 x.e.d, .string x.e.nm, x.av, .string x.e.tx, .int .i64 x.e.p] 32)
  have h1 := h.below hb1
  have hav : ∃ pa ca, x.av = .slice pa x.e.ats.length ca := by
    have := h.pf.own (1 + ex.length)
    rw [h.fx] at this
    exact own_sl this
  have hO : (W.alloc (.cells #[.int .i64 x.e.d, .string x.e.nm, x.av, .string x.e.tx, .int .i64 x.e.p] 32)).ownsRow bot 32 5 vE (k + 1) (ex.flatMap elC) := by
    have := h1.pf.own 0
    rw [h1.f0] at this
    unfold Rw.own elR at this
    rwa [hl] at this
  have hfv : (f 0).v = vE := by rw [h.f0]; rfl
  obtain ⟨v3, w3, q1, q2, q3, q4⟩ := ap1 (t := 24) Tryz.underlying24 infoEl rfl (by decide) hO (theap_new W _) rfl (fun u hu => by
    obtain ⟨pa, ca, e⟩ := hav
    simp only [List.mem_cons, List.not_mem_nil, or_false] at hu
    rcases hu with rfl | rfl | rfl | rfl | rfl
    · rfl
    · rfl
    · rw [e]; rfl
    · rfl
    · rfl) (by omega) (by decide) (Nat.le_trans hbot hb1.size)
  obtain ⟨p3, c3, rfl⟩ := own_sl q2
  have hg : ∀ k, vE.ownBlock = some k → bot ≤ k := fun k hk => (ownLt hO hk).1
  have hP := pf_app h1.pf (Below.refl _ _) 0 (W' := w3) (r := elR (.slice p3 (k + 1 + 1) c3) (ex ++ [x])) (by
    unfold Rw.own elR
    rw [List.length_append, List.flatMap_append, hl]
    exact q2) (by rw [hfv]; exact q3) (by rw [hfv]; exact q4)
  refine ⟨p3, c3, w3, q1, ((hb1.mono hbot).trans (Below.refl bot _)).grown q3 (Nat.le_trans hbot hb1.size) hg, _, hP, upF_same _ _ _, fun i y' hy' => ?_, ?_, fun z hz => ?_⟩
  · rw [upF_ne _ _ _ (by omega)]
    by_cases hi : i < ex.length
    · rw [List.getElem?_append_left hi] at hy'
      exact h.fa i y' hy'
    · have hlt := (List.getElem?_eq_some_iff.1 hy').1
      rw [List.length_append, List.length_singleton] at hlt
      obtain rfl : i = ex.length := by omega
      rw [List.getElem?_append_right (Nat.le_refl _), Nat.sub_self] at hy'
      cases hy'
      exact h.fx
  · rw [List.map_append]
    exact dep_snoc hdp (by rw [List.length_map]; exact hl) (by rw [List.getElem?_map, hy]; rfl) h2 h3
  · rcases List.mem_append.1 hz with hz | hz
    · exact hd6 z hz
    · rw [List.mem_singleton] at hz
      subst hz
      omega
end Go.Proofs.YtchfphakhmifmabGreatDoor
namespace Go.Proofs.YtchfphakhmifmabGreatDoor
open Go.ChangeShapes Go.WideShapes Go.ChangeAt Go.RowKit Go.Lib

theorem ent_name : ∀ ag w, (callFunc 21 ag).run Tryz.prog w = .ok (.enter 21 ag) w := enters_of Tryz.func21 (by kernel_rfl) rfl
theorem ent_value : ∀ ag w, (callFunc 22 ag).run Tryz.prog w = .ok (.enter 22 ag) w := enters_of Tryz.func22 (by kernel_rfl) rfl
theorem lt_of_heap {W : World} {G : Nat} {x : Obj} (h : W.heap[G]? = some x) : G < W.heap.size := (Array.getElem?_eq_some_iff.1 h).1
theorem lit1_conv {W : World} {G n : Nat} {z : Int} (h : W.heap[G]? = some (.cells #[.int .u8 z] 5)) (hz : z = (n : Int)) : (convert 59 9 (.slice (some ⟨G, 0, none⟩) 1 1)).run Tryz.prog W = .ok (.string (sOf [n])) W := by
  subst hz
  exact BufM.conv (B := 0) (L := [n]) (.inr ⟨G, (0, 0), rfl, Nat.zero_le _, h⟩)
/-- What made has done behind k seeds. -/
structure MI (w wr : World) (v : Value) (k : Nat) (f : Nat → Rw) (ex : List Elx) : Prop where
  d : MD wr w.heap.size v f ex
  l : ex.length = k + 1
  bel : Below w.heap.size w wr
set_option maxRecDepth 100000 in
set_option maxHeartbeats 8000000 in
theorem made_any (pp : Option Addr) (cp : Nat) (sd : List Sd) (w : World) (hr : SdRow w pp w.heap.size sd) (hok : SdOk sd) :
    Calls Tryz.prog 8 #[.slice pp sd.length cp] w fun e w' => ∃ v, e = .returned v ∧ ∃ k f ex, k ≤ 60 ∧ MI w w' v k f ex := by
  have h0 : MI w (w.alloc (.cells #[.int .i64 1, .string ⟨#[114, 111, 111, 116]⟩, .slice none 0 0, .string ⟨#[]⟩, .int .i64 0] 32)) (.slice (some ⟨w.heap.size, 0, none⟩) 1 1) 0 (rootF w.heap.size) [rootX] := ⟨MD.root w, rfl, bel1 w _⟩
  have hlen := hok.l
  go_enter Tryz.func8, Tryz.ntmps8
  go_wp2_with fail
  go_loopw [3, 4] (fun v i wr => ∃ (k : Nat) (f : Nat → Rw) (ex : List Elx), k ≤ sd.length ∧ k ≤ 60 ∧ i = .int .i64 (k : Int) ∧ MI w wr v k f ex) (fun _ i _ => 60 - (RowKit.intOf i).toNat)
  case atStart => exact ⟨0, _, _, Nat.zero_le _, Nat.zero_le _, rfl, h0⟩
  case round =>
    obtain ⟨k, f, ex, hk, hk60, rfl, hI⟩ := hrel
    clear h0
    by_cases hlt : k < sd.length ∧ k < 60
    · obtain ⟨e, he⟩ : ∃ e, sd[k]? = some e := ⟨sd[k], List.getElem?_eq_getElem hlt.1⟩
      obtain ⟨hl1, hdb, hs1, hs2, hs3⟩ := hok.e e (List.mem_of_getElem? he)
      obtain ⟨g, o, pa, ca, rfl, hg, e0, e1, e2, e3, hS⟩ := hr.c k e he
      obtain ⟨gE, cE, D, y, rfl, hD, hgE, hgE2, hy, hyD, hD1, hD16⟩ := hI.d.last hI.l
      have t1 : (k : Int) < sd.length := by omega
      have t2 : (k : Int) < 60 := by omega
      have q0 := (hI.bel.cell (p := ⟨g, o + k * 4, none⟩) hg).trans e0
      have Hq : Hid (∀ W, Below wr.heap.size wr W → W.cell? ⟨g, o + k * 4 + 1, none⟩ = some (.string e.nm) ∧ W.cell? ⟨g, o + k * 4 + 2, none⟩ = some (.slice pa e.ats.length ca) ∧ W.cell? ⟨g, o + k * 4 + 3, none⟩ = some (.string e.tx)) := Hid.mkT fun W hb => by
        have hb' := hI.bel.trans (hb.mono hI.bel.size)
        exact ⟨(hb'.cell (p := ⟨g, _, none⟩) hg).trans e1, (hb'.cell (p := ⟨g, _, none⟩) hg).trans e2, (hb'.cell (p := ⟨g, _, none⟩) hg).trans e3⟩
      have HI := Hid.mkT hI
      have HA : Hid (∀ W, Below w.heap.size w W → W.cell? ⟨g, o + k * 4 + 2, none⟩ = some (.slice pa e.ats.length ca)) := Hid.mkT fun W hb => (hb.cell (p := ⟨g, _, none⟩) hg).trans e2
      have HyD := Hid.mkT hyD
      have hdl := hdb.1
      have hdh := hdb.2
      generalize e.d = z at q0 hdl hdh
      have cN := fun W => (lname_any e.nm W).mono (R' := fun r w' => ∃ v, r = .returned v ∧ ((∃ t, v = .string t ∧ t.size ≤ 100) ∧ Below W.heap.size W w')) fun r w' ⟨t, h1, h3, h2⟩ => ⟨_, h1, ⟨t, rfl, h3⟩, h2⟩
      have cV := fun W => (lvalue_any e.tx hs2 W).mono (R' := fun r w' => ∃ v, r = .returned v ∧ ((∃ t, v = .string t) ∧ Below W.heap.size W w')) fun r w' ⟨t, h1, h2⟩ => ⟨_, h1, ⟨t, rfl⟩, h2⟩
      clear hI hyD e0 e1 e2 e3 hdb hr
      go_upto_if 27 with fail
      go_cut [5] from 28 to 30 (fun dv wx => (∃ dd : Nat, dv = .int .i64 (dd : Int) ∧ dd ≤ 9223372036854775807) ∧ wx = wr)
      case first =>
        by_cases h1 : z < 0
        · go_wp2_with fail
          go_meet
          case rel => exact ⟨⟨(-(z + 1)).toNat, congrArg (Value.int .i64) (by simp; omega), by omega⟩, rfl⟩
        · go_wp2_with fail
          go_meet
          case rel => exact ⟨⟨z.toNat, congrArg (Value.int .i64) (by omega), by omega⟩, rfl⟩
      obtain ⟨⟨dd, rfl, hdd⟩, rfl⟩ := hcut
      clear hdl hdh q0
      go_upto_if 40 with fail
      go_cut [6] from 41 to 41 (fun mv wx => (∃ mm : Nat, mv = .int .i64 ((mm : Int) + 2) ∧ mm ≤ 14 ∧ (mm : Int) + 1 ≤ D) ∧ wx = wc)
      case first =>
        by_cases h1 : 16 < D + 1
        · go_wp2_with fail
          go_meet
          case rel => exact ⟨⟨14, rfl, by omega, by omega⟩, rfl⟩
        · go_wp2_with fail
          go_meet
          case rel => exact ⟨⟨(D - 1).toNat, congrArg (Value.int .i64) (by omega), by omega, by omega⟩, rfl⟩
      obtain ⟨⟨mm, rfl, hm14, hmD⟩, rfl⟩ := hcut
      have m1 : ¬ ((mm : Int) + 1 = 0) := by omega
      have m2 : (((mm : Int) + 1) == 0) = false := beq_eq_false_iff_ne.2 m1
      have m3 : Int.tmod (dd : Int) ((mm : Int) + 1) = ((dd % (mm + 1) : Nat) : Int) := by
        rw [Int.tmod_eq_emod_of_nonneg (by omega)]; rfl
      have m0 : IntKind.i64.wrap ((mm : Int) + 2 - 1) = (mm : Int) + 1 := by rw [IntKind.wrap_i64]; omega
      have m4 : dd % (mm + 1) ≤ mm := by have := Nat.mod_lt dd (show mm + 1 > 0 by omega); omega
      generalize dd % (mm + 1) = rr at m3 m4
      have m5 : IntKind.i64.wrap (2 + (rr : Int)) = 2 + (rr : Int) := by rw [IntKind.wrap_i64]; omega
      have HS : Hid (∀ W, Below wc.heap.size wc W → Below wc.heap.size wc W ∧ W.cell? ⟨g, o + k * 4 + 1, none⟩ = some (.string e.nm) ∧ W.cell? ⟨g, o + k * 4 + 3, none⟩ = some (.string e.tx)) := Hid.mkT fun W hb => ⟨hb, (Hq.out W hb).1, (Hq.out W hb).2.2⟩
      go_upto_region 11 with fail
      go_cut [7] from 41 to 58 (fun xv wx => ∃ (X : Nat) (F : Nat → Rw) (x : Elx), xv = .pointer (some ⟨X, 0, none⟩) ∧ MX wx w.heap.size (.slice (some ⟨gE, 0, none⟩) (k + 1) cE) F ex X x ∧ x.e.d = 2 + (rr : Int) ∧ x.e.ats = [] ∧ Below wc.heap.size wc wx)
      case first =>
        refine wp_region_held_drew (S := fun w' => Below wc.heap.size wc w' ∧ w'.cell? ⟨g, o + k * 4 + 1, none⟩ = some (.string e.nm) ∧ w'.cell? ⟨g, o + k * 4 + 3, none⟩ = some (.string e.tx)) (by kernel_rfl) (HS.out _ (Below.refl _ wc).drew) (fun hHeld => ?_)
        refine wpAnyH_take (i := 0) (oi := { dst := some 41, op := Op.move (Operand.tmp 5), type := 3, pos := "outright.go:65", after := #[], guard := none }) (v := ?v1) rfl (by kernel_rfl) (by kernel_rfl) (by kernel_rfl) (fun _ _ _ h => h) (Or.inl ⟨by rfl, ?hy1⟩) (by assumption) ?rest1
        case hy1 => (intro w hSw; (try dsimp only at hSw); go_simp <;> with_reducible rfl)
        try simp only [Act.put, List.setIfInBounds_toArray, List.set_cons_zero, List.set_cons_succ]
        refine wpAnyH_take (i := 1) (oi := { dst := some 42, op := Op.move (Operand.tmp 6), type := 3, pos := "outright.go:65", after := #[], guard := none }) (v := ?v2) rfl (by kernel_rfl) (by kernel_rfl) (by kernel_rfl) (fun _ _ _ h => h) (Or.inl ⟨by rfl, ?hy2⟩) (by assumption) ?rest2
        case hy2 => (intro w hSw; (try dsimp only at hSw); go_simp <;> with_reducible rfl)
        try simp only [Act.put, List.setIfInBounds_toArray, List.set_cons_zero, List.set_cons_succ]
        refine wpAnyH_take (i := 2) (oi := { dst := some 43, op := Op.binOp BinOp.sub 3 (Operand.tmp 42) (Operand.const (Value.int IntKind.i64 1)) 3, type := 3, pos := "outright.go:65", after := #[{ on := 1, ground := Ground.data }], guard := none }) (v := ?v3) rfl (by kernel_rfl) (by kernel_rfl) (by kernel_rfl) (fun _ _ _ h => h) (Or.inl ⟨by rfl, ?hy3⟩) (by assumption) ?rest3
        case hy3 => (intro w hSw; (try dsimp only at hSw); go_simp <;> with_reducible rfl)
        try simp only [Act.put, List.setIfInBounds_toArray, List.set_cons_zero, List.set_cons_succ]
        refine wpAnyH_take (i := 3) (oi := { dst := some 44, op := Op.binOp BinOp.rem 3 (Operand.tmp 41) (Operand.tmp 43) 3, type := 3, pos := "outright.go:65", after := #[{ on := 0, ground := Ground.data }, { on := 2, ground := Ground.data }], guard := none }) (v := ?v4) rfl (by kernel_rfl) (by kernel_rfl) (by kernel_rfl) (fun _ _ _ h => h) (Or.inl ⟨by rfl, ?hy4⟩) (by assumption) ?rest4
        case hy4 => (intro w hSw; (try dsimp only at hSw); go_simp <;> with_reducible rfl)
        try simp only [Act.put, List.setIfInBounds_toArray, List.set_cons_zero, List.set_cons_succ]
        refine wpAnyH_take (i := 4) (oi := { dst := some 45, op := Op.binOp BinOp.add 3 (Operand.const (Value.int IntKind.i64 2)) (Operand.tmp 44) 3, type := 3, pos := "outright.go:65", after := #[{ on := 3, ground := Ground.data }], guard := none }) (v := ?v5) rfl (by kernel_rfl) (by kernel_rfl) (by kernel_rfl) (fun _ _ _ h => h) (Or.inl ⟨by rfl, ?hy5⟩) (by assumption) ?rest5
        case hy5 => (intro w hSw; (try dsimp only at hSw); go_simp <;> with_reducible rfl)
        try simp only [Act.put, List.setIfInBounds_toArray, List.set_cons_zero, List.set_cons_succ]
        refine wpAnyH_take (i := 5) (oi := { dst := some 46, op := Op.move (Operand.tmp 0), type := 22, pos := "outright.go:65", after := #[], guard := none }) (v := ?v6) rfl (by kernel_rfl) (by kernel_rfl) (by kernel_rfl) (fun _ _ _ h => h) (Or.inl ⟨by rfl, ?hy6⟩) (by assumption) ?rest6
        case hy6 => (intro w hSw; (try dsimp only at hSw); go_simp <;> with_reducible rfl)
        try simp only [Act.put, List.setIfInBounds_toArray, List.set_cons_zero, List.set_cons_succ]
        refine wpAnyH_take (i := 6) (oi := { dst := some 47, op := Op.move (Operand.tmp 4), type := 3, pos := "outright.go:65", after := #[], guard := none }) (v := ?v7) rfl (by kernel_rfl) (by kernel_rfl) (by kernel_rfl) (fun _ _ _ h => h) (Or.inl ⟨by rfl, ?hy7⟩) (by assumption) ?rest7
        case hy7 => (intro w hSw; (try dsimp only at hSw); go_simp <;> with_reducible rfl)
        try simp only [Act.put, List.setIfInBounds_toArray, List.set_cons_zero, List.set_cons_succ]
        refine wpAnyH_take (i := 7) (oi := { dst := some 48, op := Op.indexAddr 22 (Operand.tmp 46) (Operand.tmp 47), type := 0, pos := "outright.go:65", after := #[{ on := 5, ground := Ground.data }, { on := 6, ground := Ground.data }], guard := none }) (v := ?v8) rfl (by kernel_rfl) (by kernel_rfl) (by kernel_rfl) (fun _ _ _ h => h) (Or.inl ⟨by rfl, ?hy8⟩) (by assumption) ?rest8
        case hy8 => (intro w hSw; (try dsimp only at hSw); go_simp <;> with_reducible rfl)
        try simp only [Act.put, List.setIfInBounds_toArray, List.set_cons_zero, List.set_cons_succ]
        refine wpAnyH_take (i := 8) (oi := { dst := some 49, op := Op.fieldAddr 57 (Operand.tmp 48) 1, type := 0, pos := "outright.go:65", after := #[{ on := 7, ground := Ground.data }], guard := none }) (v := ?v9) rfl (by kernel_rfl) (by kernel_rfl) (by kernel_rfl) (fun _ _ _ h => h) (Or.inl ⟨by rfl, ?hy9⟩) (by assumption) ?rest9
        case hy9 => (intro w hSw; (try dsimp only at hSw); go_simp <;> with_reducible rfl)
        try simp only [Act.put, List.setIfInBounds_toArray, List.set_cons_zero, List.set_cons_succ]
        refine wpAnyH_take (i := 9) (oi := { dst := some 50, op := Op.load 9 (Operand.tmp 49), type := 9, pos := "outright.go:65", after := #[{ on := 8, ground := Ground.data }], guard := none }) (v := ?v10) rfl (by kernel_rfl) (by kernel_rfl) (by kernel_rfl) (fun _ _ _ h => h) (Or.inl ⟨by rfl, ?hy10⟩) (by assumption) ?rest10
        case hy10 => (intro w hSw; (try dsimp only at hSw); go_simp <;> with_reducible rfl)
        try simp only [Act.put, List.setIfInBounds_toArray, List.set_cons_zero, List.set_cons_succ]
        refine wpAnyH_take (i := 11) (oi := { dst := some 52, op := Op.move (Operand.tmp 0), type := 22, pos := "outright.go:65", after := #[], guard := none }) (v := ?v11) rfl (by kernel_rfl) (by kernel_rfl) (by kernel_rfl) (fun _ _ _ h => h) (Or.inl ⟨by rfl, ?hy11⟩) (by assumption) ?rest11
        case hy11 => (intro w hSw; (try dsimp only at hSw); go_simp <;> with_reducible rfl)
        try simp only [Act.put, List.setIfInBounds_toArray, List.set_cons_zero, List.set_cons_succ]
        refine wpAnyH_take (i := 12) (oi := { dst := some 53, op := Op.move (Operand.tmp 4), type := 3, pos := "outright.go:65", after := #[], guard := none }) (v := ?v12) rfl (by kernel_rfl) (by kernel_rfl) (by kernel_rfl) (fun _ _ _ h => h) (Or.inl ⟨by rfl, ?hy12⟩) (by assumption) ?rest12
        case hy12 => (intro w hSw; (try dsimp only at hSw); go_simp <;> with_reducible rfl)
        try simp only [Act.put, List.setIfInBounds_toArray, List.set_cons_zero, List.set_cons_succ]
        refine wpAnyH_take (i := 13) (oi := { dst := some 54, op := Op.indexAddr 22 (Operand.tmp 52) (Operand.tmp 53), type := 0, pos := "outright.go:65", after := #[{ on := 11, ground := Ground.data }, { on := 12, ground := Ground.data }], guard := none }) (v := ?v13) rfl (by kernel_rfl) (by kernel_rfl) (by kernel_rfl) (fun _ _ _ h => h) (Or.inl ⟨by rfl, ?hy13⟩) (by assumption) ?rest13
        case hy13 => (intro w hSw; (try dsimp only at hSw); go_simp <;> with_reducible rfl)
        try simp only [Act.put, List.setIfInBounds_toArray, List.set_cons_zero, List.set_cons_succ]
        refine wpAnyH_take (i := 14) (oi := { dst := some 55, op := Op.fieldAddr 57 (Operand.tmp 54) 3, type := 0, pos := "outright.go:65", after := #[{ on := 13, ground := Ground.data }], guard := none }) (v := ?v14) rfl (by kernel_rfl) (by kernel_rfl) (by kernel_rfl) (fun _ _ _ h => h) (Or.inl ⟨by rfl, ?hy14⟩) (by assumption) ?rest14
        case hy14 => (intro w hSw; (try dsimp only at hSw); go_simp <;> with_reducible rfl)
        try simp only [Act.put, List.setIfInBounds_toArray, List.set_cons_zero, List.set_cons_succ]
        refine wpAnyH_take (i := 15) (oi := { dst := some 56, op := Op.load 9 (Operand.tmp 55), type := 9, pos := "outright.go:65", after := #[{ on := 14, ground := Ground.data }], guard := none }) (v := ?v15) rfl (by kernel_rfl) (by kernel_rfl) (by kernel_rfl) (fun _ _ _ h => h) (Or.inl ⟨by rfl, ?hy15⟩) (by assumption) ?rest15
        case hy15 => (intro w hSw; (try dsimp only at hSw); go_simp <;> with_reducible rfl)
        try simp only [Act.put, List.setIfInBounds_toArray, List.set_cons_zero, List.set_cons_succ]
        refine wpAnyH_ready (rs := [10, 18]) (by kernel_rfl) (by simp) (AllReadyH.cons (o := { dst := some 51, op := Op.call { callee := Callee.value (Operand.func 21), args := #[Operand.tmp 50], argTypes := #[9] }, type := 9, pos := "outright.go:65", after := #[{ on := 9, ground := Ground.data }], guard := none }) rfl (fun K hK => ?_) (AllReadyH.cons (o := { dst := some 7, op := Op.alloc 32, type := 0, pos := "outright.go:65", after := #[], guard := none }) rfl (fun K hK => ?_) (AllReadyH.nil)))
        · refine xstep1 ?_ _ (.tmp 50) #[9] ?_ ent_name _ ?_ _ (cN _) ?_
          · rfl
          · rfl
          · rfl
          rintro _ w1 ⟨⟨t1, rfl, -⟩, hb1⟩
          refine hK.out _ _ (HS.out _ (hHeld.1.trans (hb1.mono hHeld.1.size))) (fun hHeld => ?_)
          clear hK K
          try simp only [Act.put, List.setIfInBounds_toArray, List.set_cons_zero, List.set_cons_succ]
          refine wpAnyH_ready (rs := [16, 18]) (by kernel_rfl) (by simp) (AllReadyH.cons (o := { dst := some 57, op := Op.call { callee := Callee.value (Operand.func 22), args := #[Operand.tmp 56], argTypes := #[9] }, type := 9, pos := "outright.go:65", after := #[{ on := 15, ground := Ground.data }, { on := 10, ground := Ground.chain }], guard := none }) rfl (fun K hK => ?_) (AllReadyH.cons (o := { dst := some 7, op := Op.alloc 32, type := 0, pos := "outright.go:65", after := #[], guard := none }) rfl (fun K hK => ?_) (AllReadyH.nil)))
          · refine xstep1 ?_ _ (.tmp 56) #[9] ?_ ent_value _ ?_ _ (cV _) ?_
            · rfl
            · rfl
            · rfl
            rintro _ w2 ⟨⟨t2, rfl⟩, hb2⟩
            have hw2 : Below wc.heap.size wc w2 := hHeld.1.trans (hb2.mono hHeld.1.size)
            refine hK.out _ _ (HS.out _ (hHeld.1.trans (hb2.mono hHeld.1.size))) (fun hHeld => ?_)
            clear hK K
            try simp only [Act.put, List.setIfInBounds_toArray, List.set_cons_zero, List.set_cons_succ]
            refine wpAnyH_take (i := 17) (oi := { dst := some 58, op := Op.build 32 #[(0, Operand.tmp 45), (1, Operand.tmp 51), (3, Operand.tmp 57)], type := 32, pos := "outright.go:65", after := #[{ on := 4, ground := Ground.data }, { on := 10, ground := Ground.data }, { on := 16, ground := Ground.data }], guard := none }) (v := ?v16) rfl (by kernel_rfl) (by kernel_rfl) (by kernel_rfl) (fun _ _ _ h => h) (Or.inl ⟨by rfl, ?hy16⟩) (by assumption) ?rest16
            case hy16 => (intro w hSw; (try dsimp only at hSw); go_simp <;> with_reducible rfl)
            try simp only [Act.put, List.setIfInBounds_toArray, List.set_cons_zero, List.set_cons_succ]
            refine wpAnyH_ready (rs := [18]) (by kernel_rfl) (by simp) (AllReadyH.cons (o := { dst := some 7, op := Op.alloc 32, type := 0, pos := "outright.go:65", after := #[], guard := none }) rfl (fun K hK => ?_) (AllReadyH.nil))
            go_simp
            refine hK.out _ _ (HS.out _ (hHeld.1.alloc hHeld.1.size _)) (fun hHeld => ?_)
            clear hK K
            try simp only [Act.put, List.setIfInBounds_toArray, List.set_cons_zero, List.set_cons_succ]
            refine wpAnyH_ready (rs := [19]) (by kernel_rfl) (by simp) (AllReadyH.cons (o := { dst := none, op := Op.store 32 (Operand.tmp 7) (Operand.tmp 58), type := 0, pos := "outright.go:65", after := #[{ on := 18, ground := Ground.data }, { on := 17, ground := Ground.data }, { on := 16, ground := Ground.chain }, { on := 0, ground := Ground.phase }, { on := 1, ground := Ground.phase }, { on := 2, ground := Ground.phase }, { on := 3, ground := Ground.phase }, { on := 4, ground := Ground.phase }, { on := 5, ground := Ground.phase }, { on := 6, ground := Ground.phase }, { on := 7, ground := Ground.phase }, { on := 8, ground := Ground.phase }, { on := 9, ground := Ground.phase }, { on := 10, ground := Ground.phase }, { on := 11, ground := Ground.phase }, { on := 12, ground := Ground.phase }, { on := 13, ground := Ground.phase }, { on := 14, ground := Ground.phase }, { on := 15, ground := Ground.phase }, { on := 16, ground := Ground.phase }, { on := 17, ground := Ground.phase }, { on := 18, ground := Ground.phase }], guard := none }) rfl (fun K hK => ?_) (AllReadyH.nil))
            have hx : (w2.alloc (.cells #[.int .i64 0, .string ⟨#[]⟩, .slice none 0 0, .string ⟨#[]⟩, .int .i64 0] 32)).heap[w2.heap.size]? = some (.cells #[.int .i64 0, .string ⟨#[]⟩, .slice none 0 0, .string ⟨#[]⟩, .int .i64 0] 32) := theap_new w2 _
            have hXge : wc.heap.size ≤ w2.heap.size := by have := hHeld.1.size; rw [World.size_alloc] at this; have := hb2.size; have := hb1.size; show wc.heap.size ≤ w2.heap.size; exact Nat.le_trans hb1.size hb2.size
            have x0 : (w2.alloc (.cells #[.int .i64 0, .string ⟨#[]⟩, .slice none 0 0, .string ⟨#[]⟩, .int .i64 0] 32)).cell? ⟨w2.heap.size, 0, none⟩ = some (.int .i64 0) := by simp only [World.cell?, hx]; rfl
            have y0 : (w2.alloc (.cells #[.int .i64 0, .string ⟨#[]⟩, .slice none 0 0, .string ⟨#[]⟩, .int .i64 0] 32)).frozen? ⟨w2.heap.size, 0, none⟩ = false := by simp only [World.frozen?, hx]; simp
            have x1 : (w2.alloc (.cells #[.int .i64 0, .string ⟨#[]⟩, .slice none 0 0, .string ⟨#[]⟩, .int .i64 0] 32)).cell? ⟨w2.heap.size, 1, none⟩ = some (.string ⟨#[]⟩) := by simp only [World.cell?, hx]; rfl
            have y1 : (w2.alloc (.cells #[.int .i64 0, .string ⟨#[]⟩, .slice none 0 0, .string ⟨#[]⟩, .int .i64 0] 32)).frozen? ⟨w2.heap.size, 1, none⟩ = false := by simp only [World.frozen?, hx]; simp
            have x2 : (w2.alloc (.cells #[.int .i64 0, .string ⟨#[]⟩, .slice none 0 0, .string ⟨#[]⟩, .int .i64 0] 32)).cell? ⟨w2.heap.size, 2, none⟩ = some (.slice none 0 0) := by simp only [World.cell?, hx]; rfl
            have y2 : (w2.alloc (.cells #[.int .i64 0, .string ⟨#[]⟩, .slice none 0 0, .string ⟨#[]⟩, .int .i64 0] 32)).frozen? ⟨w2.heap.size, 2, none⟩ = false := by simp only [World.frozen?, hx]; simp
            have x3 : (w2.alloc (.cells #[.int .i64 0, .string ⟨#[]⟩, .slice none 0 0, .string ⟨#[]⟩, .int .i64 0] 32)).cell? ⟨w2.heap.size, 3, none⟩ = some (.string ⟨#[]⟩) := by simp only [World.cell?, hx]; rfl
            have y3 : (w2.alloc (.cells #[.int .i64 0, .string ⟨#[]⟩, .slice none 0 0, .string ⟨#[]⟩, .int .i64 0] 32)).frozen? ⟨w2.heap.size, 3, none⟩ = false := by simp only [World.frozen?, hx]; simp
            have x4 : (w2.alloc (.cells #[.int .i64 0, .string ⟨#[]⟩, .slice none 0 0, .string ⟨#[]⟩, .int .i64 0] 32)).cell? ⟨w2.heap.size, 4, none⟩ = some (.int .i64 0) := by simp only [World.cell?, hx]; rfl
            have y4 : (w2.alloc (.cells #[.int .i64 0, .string ⟨#[]⟩, .slice none 0 0, .string ⟨#[]⟩, .int .i64 0] 32)).frozen? ⟨w2.heap.size, 4, none⟩ = false := by simp only [World.frozen?, hx]; simp
            go_simp
            refine hK.out _ _ (HS.out _ (hw2.alloc hw2.size _)) (fun hHeld => ?_)
            clear hK K
            try simp only [Act.put, List.setIfInBounds_toArray, List.set_cons_zero, List.set_cons_succ]
            refine wpAnyH_done (by kernel_rfl) ?_ _
            have hbx := theap_new w2 (.cells #[.int .i64 (2 + (rr : Int)), .string t1, .slice none 0 0, .string t2, .int .i64 0] 32)
            have hMX := HI.out.d.box hHeld.1 hXge HI.out.bel.size hbx
            go_wp2_with fail
            go_meet
            case rel => exact ⟨_, _, _, rfl, hMX, rfl, rfl, hHeld.1⟩
          · go_simp
            refine hK.out _ _ (HS.out _ (hHeld.1.alloc hHeld.1.size _)) (fun hHeld => ?_)
            clear hK K
            try simp only [Act.put, List.setIfInBounds_toArray, List.set_cons_zero, List.set_cons_succ]
            refine wpAnyH_ready (rs := [16]) (by kernel_rfl) (by simp) (AllReadyH.cons (o := { dst := some 57, op := Op.call { callee := Callee.value (Operand.func 22), args := #[Operand.tmp 56], argTypes := #[9] }, type := 9, pos := "outright.go:65", after := #[{ on := 15, ground := Ground.data }, { on := 10, ground := Ground.chain }], guard := none }) rfl (fun K hK => ?_) (AllReadyH.nil))
            refine xstep1 ?_ _ (.tmp 56) #[9] ?_ ent_value _ ?_ _ (cV _) ?_
            · rfl
            · rfl
            · rfl
            rintro _ w2 ⟨⟨t2, rfl⟩, hb2⟩
            have hw2 : Below wc.heap.size wc w2 := hHeld.1.trans (hb2.mono hHeld.1.size)
            refine hK.out _ _ (HS.out _ (hHeld.1.trans (hb2.mono hHeld.1.size))) (fun hHeld => ?_)
            clear hK K
            try simp only [Act.put, List.setIfInBounds_toArray, List.set_cons_zero, List.set_cons_succ]
            refine wpAnyH_take (i := 17) (oi := { dst := some 58, op := Op.build 32 #[(0, Operand.tmp 45), (1, Operand.tmp 51), (3, Operand.tmp 57)], type := 32, pos := "outright.go:65", after := #[{ on := 4, ground := Ground.data }, { on := 10, ground := Ground.data }, { on := 16, ground := Ground.data }], guard := none }) (v := ?v17) rfl (by kernel_rfl) (by kernel_rfl) (by kernel_rfl) (fun _ _ _ h => h) (Or.inl ⟨by rfl, ?hy17⟩) (by assumption) ?rest17
            case hy17 => (intro w hSw; (try dsimp only at hSw); go_simp <;> with_reducible rfl)
            try simp only [Act.put, List.setIfInBounds_toArray, List.set_cons_zero, List.set_cons_succ]
            refine wpAnyH_ready (rs := [19]) (by kernel_rfl) (by simp) (AllReadyH.cons (o := { dst := none, op := Op.store 32 (Operand.tmp 7) (Operand.tmp 58), type := 0, pos := "outright.go:65", after := #[{ on := 18, ground := Ground.data }, { on := 17, ground := Ground.data }, { on := 16, ground := Ground.chain }, { on := 0, ground := Ground.phase }, { on := 1, ground := Ground.phase }, { on := 2, ground := Ground.phase }, { on := 3, ground := Ground.phase }, { on := 4, ground := Ground.phase }, { on := 5, ground := Ground.phase }, { on := 6, ground := Ground.phase }, { on := 7, ground := Ground.phase }, { on := 8, ground := Ground.phase }, { on := 9, ground := Ground.phase }, { on := 10, ground := Ground.phase }, { on := 11, ground := Ground.phase }, { on := 12, ground := Ground.phase }, { on := 13, ground := Ground.phase }, { on := 14, ground := Ground.phase }, { on := 15, ground := Ground.phase }, { on := 16, ground := Ground.phase }, { on := 17, ground := Ground.phase }, { on := 18, ground := Ground.phase }], guard := none }) rfl (fun K hK => ?_) (AllReadyH.nil))
            have hx : w2.heap[w1.heap.size]? = some (.cells #[.int .i64 0, .string ⟨#[]⟩, .slice none 0 0, .string ⟨#[]⟩, .int .i64 0] 32) := (hb2.block _ (by rw [World.size_alloc]; omega)).trans (theap_new w1 _)
            have hXge : wc.heap.size ≤ w1.heap.size := hb1.size
            have x0 : w2.cell? ⟨w1.heap.size, 0, none⟩ = some (.int .i64 0) := by simp only [World.cell?, hx]; rfl
            have y0 : w2.frozen? ⟨w1.heap.size, 0, none⟩ = false := by simp only [World.frozen?, hx]; simp
            have x1 : w2.cell? ⟨w1.heap.size, 1, none⟩ = some (.string ⟨#[]⟩) := by simp only [World.cell?, hx]; rfl
            have y1 : w2.frozen? ⟨w1.heap.size, 1, none⟩ = false := by simp only [World.frozen?, hx]; simp
            have x2 : w2.cell? ⟨w1.heap.size, 2, none⟩ = some (.slice none 0 0) := by simp only [World.cell?, hx]; rfl
            have y2 : w2.frozen? ⟨w1.heap.size, 2, none⟩ = false := by simp only [World.frozen?, hx]; simp
            have x3 : w2.cell? ⟨w1.heap.size, 3, none⟩ = some (.string ⟨#[]⟩) := by simp only [World.cell?, hx]; rfl
            have y3 : w2.frozen? ⟨w1.heap.size, 3, none⟩ = false := by simp only [World.frozen?, hx]; simp
            have x4 : w2.cell? ⟨w1.heap.size, 4, none⟩ = some (.int .i64 0) := by simp only [World.cell?, hx]; rfl
            have y4 : w2.frozen? ⟨w1.heap.size, 4, none⟩ = false := by simp only [World.frozen?, hx]; simp
            go_simp
            refine hK.out _ _ (HS.out _ (((((hHeld.1.setCell hXge _).setCell hXge _).setCell hXge _).setCell hXge _).setCell hXge _)) (fun hHeld => ?_)
            clear hK K
            try simp only [Act.put, List.setIfInBounds_toArray, List.set_cons_zero, List.set_cons_succ]
            refine wpAnyH_done (by kernel_rfl) ?_ _
            have hbx := hset_at (o := 4) (hset_at (o := 3) (hset_at (o := 2) (hset_at (o := 1) (hset_at (o := 0) hx (.int .i64 (2 + (rr : Int)))) (.string t1)) (.slice none 0 0)) (.string t2)) (.int .i64 0)
            have hMX := HI.out.d.box hHeld.1 hXge HI.out.bel.size hbx
            go_wp2_with fail
            go_meet
            case rel => exact ⟨_, _, _, rfl, hMX, rfl, rfl, hHeld.1⟩
        · go_simp
          refine hK.out _ _ (HS.out _ (hHeld.1.alloc hHeld.1.size _)) (fun hHeld => ?_)
          clear hK K
          try simp only [Act.put, List.setIfInBounds_toArray, List.set_cons_zero, List.set_cons_succ]
          refine wpAnyH_ready (rs := [10]) (by kernel_rfl) (by simp) (AllReadyH.cons (o := { dst := some 51, op := Op.call { callee := Callee.value (Operand.func 21), args := #[Operand.tmp 50], argTypes := #[9] }, type := 9, pos := "outright.go:65", after := #[{ on := 9, ground := Ground.data }], guard := none }) rfl (fun K hK => ?_) (AllReadyH.nil))
          refine xstep1 ?_ _ (.tmp 50) #[9] ?_ ent_name _ ?_ _ (cN _) ?_
          · rfl
          · rfl
          · rfl
          rintro _ w1 ⟨⟨t1, rfl, -⟩, hb1⟩
          refine hK.out _ _ (HS.out _ (hHeld.1.trans (hb1.mono hHeld.1.size))) (fun hHeld => ?_)
          clear hK K
          try simp only [Act.put, List.setIfInBounds_toArray, List.set_cons_zero, List.set_cons_succ]
          refine wpAnyH_ready (rs := [16]) (by kernel_rfl) (by simp) (AllReadyH.cons (o := { dst := some 57, op := Op.call { callee := Callee.value (Operand.func 22), args := #[Operand.tmp 56], argTypes := #[9] }, type := 9, pos := "outright.go:65", after := #[{ on := 15, ground := Ground.data }, { on := 10, ground := Ground.chain }], guard := none }) rfl (fun K hK => ?_) (AllReadyH.nil))
          refine xstep1 ?_ _ (.tmp 56) #[9] ?_ ent_value _ ?_ _ (cV _) ?_
          · rfl
          · rfl
          · rfl
          rintro _ w2 ⟨⟨t2, rfl⟩, hb2⟩
          have hw2 : Below wc.heap.size wc w2 := hHeld.1.trans (hb2.mono hHeld.1.size)
          refine hK.out _ _ (HS.out _ (hHeld.1.trans (hb2.mono hHeld.1.size))) (fun hHeld => ?_)
          clear hK K
          try simp only [Act.put, List.setIfInBounds_toArray, List.set_cons_zero, List.set_cons_succ]
          refine wpAnyH_take (i := 17) (oi := { dst := some 58, op := Op.build 32 #[(0, Operand.tmp 45), (1, Operand.tmp 51), (3, Operand.tmp 57)], type := 32, pos := "outright.go:65", after := #[{ on := 4, ground := Ground.data }, { on := 10, ground := Ground.data }, { on := 16, ground := Ground.data }], guard := none }) (v := ?v18) rfl (by kernel_rfl) (by kernel_rfl) (by kernel_rfl) (fun _ _ _ h => h) (Or.inl ⟨by rfl, ?hy18⟩) (by assumption) ?rest18
          case hy18 => (intro w hSw; (try dsimp only at hSw); go_simp <;> with_reducible rfl)
          try simp only [Act.put, List.setIfInBounds_toArray, List.set_cons_zero, List.set_cons_succ]
          refine wpAnyH_ready (rs := [19]) (by kernel_rfl) (by simp) (AllReadyH.cons (o := { dst := none, op := Op.store 32 (Operand.tmp 7) (Operand.tmp 58), type := 0, pos := "outright.go:65", after := #[{ on := 18, ground := Ground.data }, { on := 17, ground := Ground.data }, { on := 16, ground := Ground.chain }, { on := 0, ground := Ground.phase }, { on := 1, ground := Ground.phase }, { on := 2, ground := Ground.phase }, { on := 3, ground := Ground.phase }, { on := 4, ground := Ground.phase }, { on := 5, ground := Ground.phase }, { on := 6, ground := Ground.phase }, { on := 7, ground := Ground.phase }, { on := 8, ground := Ground.phase }, { on := 9, ground := Ground.phase }, { on := 10, ground := Ground.phase }, { on := 11, ground := Ground.phase }, { on := 12, ground := Ground.phase }, { on := 13, ground := Ground.phase }, { on := 14, ground := Ground.phase }, { on := 15, ground := Ground.phase }, { on := 16, ground := Ground.phase }, { on := 17, ground := Ground.phase }, { on := 18, ground := Ground.phase }], guard := none }) rfl (fun K hK => ?_) (AllReadyH.nil))
          have hx : w2.heap[wc.heap.size]? = some (.cells #[.int .i64 0, .string ⟨#[]⟩, .slice none 0 0, .string ⟨#[]⟩, .int .i64 0] 32) := (hb2.block _ (Nat.lt_of_lt_of_le (by show wc.heap.size < (wc.alloc _).heap.size; rw [World.size_alloc]; omega) hb1.size)).trans ((hb1.block _ (by show wc.heap.size < (wc.alloc _).heap.size; rw [World.size_alloc]; omega)).trans (theap_new wc _))
          have hXge : wc.heap.size ≤ wc.heap.size := Nat.le_refl _
          have x0 : w2.cell? ⟨wc.heap.size, 0, none⟩ = some (.int .i64 0) := by simp only [World.cell?, hx]; rfl
          have y0 : w2.frozen? ⟨wc.heap.size, 0, none⟩ = false := by simp only [World.frozen?, hx]; simp
          have x1 : w2.cell? ⟨wc.heap.size, 1, none⟩ = some (.string ⟨#[]⟩) := by simp only [World.cell?, hx]; rfl
          have y1 : w2.frozen? ⟨wc.heap.size, 1, none⟩ = false := by simp only [World.frozen?, hx]; simp
          have x2 : w2.cell? ⟨wc.heap.size, 2, none⟩ = some (.slice none 0 0) := by simp only [World.cell?, hx]; rfl
          have y2 : w2.frozen? ⟨wc.heap.size, 2, none⟩ = false := by simp only [World.frozen?, hx]; simp
          have x3 : w2.cell? ⟨wc.heap.size, 3, none⟩ = some (.string ⟨#[]⟩) := by simp only [World.cell?, hx]; rfl
          have y3 : w2.frozen? ⟨wc.heap.size, 3, none⟩ = false := by simp only [World.frozen?, hx]; simp
          have x4 : w2.cell? ⟨wc.heap.size, 4, none⟩ = some (.int .i64 0) := by simp only [World.cell?, hx]; rfl
          have y4 : w2.frozen? ⟨wc.heap.size, 4, none⟩ = false := by simp only [World.frozen?, hx]; simp
          go_simp
          refine hK.out _ _ (HS.out _ (((((hHeld.1.setCell hXge _).setCell hXge _).setCell hXge _).setCell hXge _).setCell hXge _)) (fun hHeld => ?_)
          clear hK K
          try simp only [Act.put, List.setIfInBounds_toArray, List.set_cons_zero, List.set_cons_succ]
          refine wpAnyH_done (by kernel_rfl) ?_ _
          have hbx := hset_at (o := 4) (hset_at (o := 3) (hset_at (o := 2) (hset_at (o := 1) (hset_at (o := 0) hx (.int .i64 (2 + (rr : Int)))) (.string t1)) (.slice none 0 0)) (.string t2)) (.int .i64 0)
          have hMX := HI.out.d.box hHeld.1 hXge HI.out.bel.size hbx
          go_wp2_with fail
          go_meet
          case rel => exact ⟨_, _, _, rfl, hMX, rfl, rfl, hHeld.1⟩
      obtain ⟨X, F, x, rfl, hX, hxd, hxa, hbx⟩ := hcut
      have HBw := Hid.mkT (HI.out.bel.trans (hbx.mono HI.out.bel.size))
      have hq0 : x.e.ats.length = 0 := by rw [hxa]; rfl
      clear cN cV HS m0 m1 m2 m3 m5 hxa hD hgE hbx Hq
      go_wp2_with fail
      go_loopw [8] (fun j wr => ∃ (q : Nat) (F : Nat → Rw) (x : Elx), q ≤ e.ats.length ∧ q ≤ 24 ∧ j = .int .i64 (q : Int) ∧ MX wr w.heap.size (.slice (some ⟨gE, 0, none⟩) (k + 1) cE) F ex X x ∧ x.e.d = 2 + (rr : Int) ∧ x.e.ats.length = q ∧ Below w.heap.size w wr) (fun j _ => 24 - (RowKit.intOf j).toNat)
      case atStart => exact ⟨0, F, x, Nat.zero_le _, Nat.zero_le _, rfl, hX, hxd, hq0, HBw.out⟩
      case round =>
        clear hX hxd hq0 HBw
        obtain ⟨q, F, x, hq, hq24, rfl, hX, hxd, hxq, hB⟩ := hrel
        have d2 := HA.out wr hB
        have hwr := hB.size
        by_cases hql : q < e.ats.length ∧ q < 24
        · obtain ⟨s, hs⟩ : ∃ s, e.ats[q]? = some s := ⟨e.ats[q], List.getElem?_eq_getElem hql.1⟩
          obtain ⟨ga, oa, rfl, hga, hcs⟩ := hS.c q s hs
          obtain ⟨px, cx, hxav⟩ : ∃ px cx, x.av = .slice px q cx := by
            have := hX.pf.own (1 + ex.length)
            rw [hX.fx] at this
            obtain ⟨p, c, e'⟩ := own_sl this
            exact ⟨p, c, by rw [← hxq]; exact e'⟩
          have hXl : X < wr.heap.size := lt_of_heap hX.b
          have hcX : wr.cell? ⟨X, 2, none⟩ = some (.slice px q cx) := by
            simp only [World.cell?, hX.b, ← hxav]
            rfl
          have HS2 : Hid (∀ W, Below wr.heap.size wr W → W.cell? ⟨g, o + k * 4 + 2, none⟩ = some (.slice (some ⟨ga, oa, none⟩) e.ats.length ca) ∧ W.cell? ⟨ga, oa + q, none⟩ = some (.string s) ∧ W.cell? ⟨X, 2, none⟩ = some (.slice px q cx)) := Hid.mkT fun W hb => by
            have hb' := hB.trans (hb.mono hB.size)
            exact ⟨HA.out W hb', (hb'.cell (p := ⟨ga, _, none⟩) hga).trans hcs, (hb.cell (p := ⟨X, 2, none⟩) hXl).trans hcX⟩
          have hX0 := hX.hX
          have HC : Hid (∀ (W : World) (v : Value), Below w.heap.size w (W.setCell ⟨X, 2, none⟩ v) → W.cell? ⟨g, o + k * 4 + 2, none⟩ = some (.slice (some ⟨ga, oa, none⟩) e.ats.length ca) ∧ W.cell? ⟨ga, oa + q, none⟩ = some (.string s)) := Hid.mkT fun W v hb => ⟨(World.cell?_setCell_other W _ _ _ (fun e => by injection e with e1; omega)).symm.trans (HA.out _ hb), (World.cell?_setCell_other W _ _ _ (fun e => by injection e with e1; omega)).symm.trans ((hb.cell (p := ⟨ga, _, none⟩) hga).trans hcs)⟩
          have hL : Below wr.heap.size wr wr.drew := (Below.refl _ wr).drew
          have u1 : (q : Int) < e.ats.length := by omega
          have u2 : (q : Int) < 24 := by omega
          have n1 : IntKind.i64.wrap (97 + (q : Int)) = 97 + (q : Int) := by rw [IntKind.wrap_i64]; omega
          have n2 : IntKind.u8.wrap (97 + (q : Int)) = 97 + (q : Int) := by rw [IntKind.wrap_u8]; omega
          have HM := Hid.mkT hX
          have HB := Hid.mkT hB
          have cN := fun W => (lname_any s W).mono (R' := fun r w' => ∃ v, r = .returned v ∧ ((∃ t, v = .string t ∧ t.size ≤ 100) ∧ Below W.heap.size W w')) fun r w' ⟨t, h1, h3, h2⟩ => ⟨_, h1, ⟨t, rfl, h3⟩, h2⟩
          have cV := fun W => (lvalue_any s (hs3 s (List.mem_of_getElem? hs)) W).mono (R' := fun r w' => ∃ v, r = .returned v ∧ ((∃ t, v = .string t) ∧ Below W.heap.size W w')) fun r w' ⟨t, h1, h2⟩ => ⟨_, h1, ⟨t, rfl⟩, h2⟩
          clear hX hB hs hcs hS hs3
          go_wp2_with fail
          refine wp_region_F 30 (fun w' => w'.cell? ⟨g, o + k * 4 + 2, none⟩ = some (.slice (some ⟨ga, oa, none⟩) e.ats.length ca) ∧ w'.cell? ⟨ga, oa + q, none⟩ = some (.string s) ∧ w'.cell? ⟨X, 2, none⟩ = some (.slice px q cx)) (by kernel_rfl) (HS2.out _ (Below.refl _ wr).drew) (fun hHeld => ?_)
          refine wpAnyF_take (i := 0) (oi := { dst := some 73, op := Op.fieldAddr 32 (Operand.tmp 7) 2, type := 0, pos := "outright.go:67", after := #[], guard := none }) (v := ?v19) rfl (by kernel_rfl) (by kernel_rfl) (by kernel_rfl) (by kernel_rfl) (fun _ _ _ h => h) (Or.inl ⟨by rfl, ?hy19⟩) (by assumption) ?rest19
          case hy19 => (intro w hSw; (try dsimp only at hSw); go_simp <;> with_reducible rfl)
          try simp only [Act.put, List.setIfInBounds_toArray, List.set_cons_zero, List.set_cons_succ]
          refine wpAnyF_take (i := 1) (oi := { dst := some 74, op := Op.load 30 (Operand.tmp 73), type := 30, pos := "outright.go:67", after := #[{ on := 0, ground := Ground.data }], guard := none }) (v := ?v20) rfl (by kernel_rfl) (by kernel_rfl) (by kernel_rfl) (by kernel_rfl) (fun _ _ _ h => h) (Or.inl ⟨by rfl, ?hy20⟩) (by assumption) ?rest20
          case hy20 => (intro w hSw; (try dsimp only at hSw); go_simp <;> with_reducible rfl)
          try simp only [Act.put, List.setIfInBounds_toArray, List.set_cons_zero, List.set_cons_succ]
          refine wpAnyF_take (i := 2) (oi := { dst := some 75, op := Op.move (Operand.tmp 8), type := 3, pos := "outright.go:67", after := #[], guard := none }) (v := ?v21) rfl (by kernel_rfl) (by kernel_rfl) (by kernel_rfl) (by kernel_rfl) (fun _ _ _ h => h) (Or.inl ⟨by rfl, ?hy21⟩) (by assumption) ?rest21
          case hy21 => (intro w hSw; (try dsimp only at hSw); go_simp <;> with_reducible rfl)
          try simp only [Act.put, List.setIfInBounds_toArray, List.set_cons_zero, List.set_cons_succ]
          refine wpAnyF_take (i := 3) (oi := { dst := some 76, op := Op.binOp BinOp.add 3 (Operand.const (Value.int IntKind.i64 97)) (Operand.tmp 75) 3, type := 3, pos := "outright.go:67", after := #[{ on := 2, ground := Ground.data }], guard := none }) (v := ?v22) rfl (by kernel_rfl) (by kernel_rfl) (by kernel_rfl) (by kernel_rfl) (fun _ _ _ h => h) (Or.inl ⟨by rfl, ?hy22⟩) (by assumption) ?rest22
          case hy22 => (intro w hSw; (try dsimp only at hSw); go_simp <;> with_reducible rfl)
          try simp only [Act.put, List.setIfInBounds_toArray, List.set_cons_zero, List.set_cons_succ]
          refine wpAnyF_take (i := 4) (oi := { dst := some 77, op := Op.convert 3 5 (Operand.tmp 76), type := 5, pos := "outright.go:67", after := #[{ on := 3, ground := Ground.data }], guard := none }) (v := ?v23) rfl (by kernel_rfl) (by kernel_rfl) (by kernel_rfl) (by kernel_rfl) (fun _ _ _ h => h) (Or.inl ⟨by rfl, ?hy23⟩) (by assumption) ?rest23
          case hy23 => (intro w hSw; (try dsimp only at hSw); go_simp <;> with_reducible rfl)
          try simp only [Act.put, List.setIfInBounds_toArray, List.set_cons_zero, List.set_cons_succ]
          refine wpAnyF_take (i := 7) (oi := { dst := some 80, op := Op.move (Operand.tmp 0), type := 22, pos := "outright.go:67", after := #[], guard := none }) (v := ?v24) rfl (by kernel_rfl) (by kernel_rfl) (by kernel_rfl) (by kernel_rfl) (fun _ _ _ h => h) (Or.inl ⟨by rfl, ?hy24⟩) (by assumption) ?rest24
          case hy24 => (intro w hSw; (try dsimp only at hSw); go_simp <;> with_reducible rfl)
          try simp only [Act.put, List.setIfInBounds_toArray, List.set_cons_zero, List.set_cons_succ]
          refine wpAnyF_take (i := 8) (oi := { dst := some 81, op := Op.move (Operand.tmp 4), type := 3, pos := "outright.go:67", after := #[], guard := none }) (v := ?v25) rfl (by kernel_rfl) (by kernel_rfl) (by kernel_rfl) (by kernel_rfl) (fun _ _ _ h => h) (Or.inl ⟨by rfl, ?hy25⟩) (by assumption) ?rest25
          case hy25 => (intro w hSw; (try dsimp only at hSw); go_simp <;> with_reducible rfl)
          try simp only [Act.put, List.setIfInBounds_toArray, List.set_cons_zero, List.set_cons_succ]
          refine wpAnyF_take (i := 9) (oi := { dst := some 82, op := Op.indexAddr 22 (Operand.tmp 80) (Operand.tmp 81), type := 0, pos := "outright.go:67", after := #[{ on := 7, ground := Ground.data }, { on := 8, ground := Ground.data }], guard := none }) (v := ?v26) rfl (by kernel_rfl) (by kernel_rfl) (by kernel_rfl) (by kernel_rfl) (fun _ _ _ h => h) (Or.inl ⟨by rfl, ?hy26⟩) (by assumption) ?rest26
          case hy26 => (intro w hSw; (try dsimp only at hSw); go_simp <;> with_reducible rfl)
          try simp only [Act.put, List.setIfInBounds_toArray, List.set_cons_zero, List.set_cons_succ]
          refine wpAnyF_take (i := 10) (oi := { dst := some 83, op := Op.fieldAddr 57 (Operand.tmp 82) 2, type := 0, pos := "outright.go:67", after := #[{ on := 9, ground := Ground.data }], guard := none }) (v := ?v27) rfl (by kernel_rfl) (by kernel_rfl) (by kernel_rfl) (by kernel_rfl) (fun _ _ _ h => h) (Or.inl ⟨by rfl, ?hy27⟩) (by assumption) ?rest27
          case hy27 => (intro w hSw; (try dsimp only at hSw); go_simp <;> with_reducible rfl)
          try simp only [Act.put, List.setIfInBounds_toArray, List.set_cons_zero, List.set_cons_succ]
          refine wpAnyF_take (i := 11) (oi := { dst := some 84, op := Op.load 40 (Operand.tmp 83), type := 40, pos := "outright.go:67", after := #[{ on := 10, ground := Ground.data }], guard := none }) (v := ?v28) rfl (by kernel_rfl) (by kernel_rfl) (by kernel_rfl) (by kernel_rfl) (fun _ _ _ h => h) (Or.inl ⟨by rfl, ?hy28⟩) (by assumption) ?rest28
          case hy28 => (intro w hSw; (try dsimp only at hSw); go_simp <;> with_reducible rfl)
          try simp only [Act.put, List.setIfInBounds_toArray, List.set_cons_zero, List.set_cons_succ]
          refine wpAnyF_take (i := 12) (oi := { dst := some 85, op := Op.move (Operand.tmp 8), type := 3, pos := "outright.go:67", after := #[], guard := none }) (v := ?v29) rfl (by kernel_rfl) (by kernel_rfl) (by kernel_rfl) (by kernel_rfl) (fun _ _ _ h => h) (Or.inl ⟨by rfl, ?hy29⟩) (by assumption) ?rest29
          case hy29 => (intro w hSw; (try dsimp only at hSw); go_simp <;> with_reducible rfl)
          try simp only [Act.put, List.setIfInBounds_toArray, List.set_cons_zero, List.set_cons_succ]
          refine wpAnyF_take (i := 13) (oi := { dst := some 86, op := Op.indexAddr 40 (Operand.tmp 84) (Operand.tmp 85), type := 0, pos := "outright.go:67", after := #[{ on := 11, ground := Ground.data }, { on := 12, ground := Ground.data }], guard := none }) (v := ?v30) rfl (by kernel_rfl) (by kernel_rfl) (by kernel_rfl) (by kernel_rfl) (fun _ _ _ h => h) (Or.inl ⟨by rfl, ?hy30⟩) (by assumption) ?rest30
          case hy30 => (intro w hSw; (try dsimp only at hSw); go_simp <;> with_reducible rfl)
          try simp only [Act.put, List.setIfInBounds_toArray, List.set_cons_zero, List.set_cons_succ]
          refine wpAnyF_take (i := 14) (oi := { dst := some 87, op := Op.load 9 (Operand.tmp 86), type := 9, pos := "outright.go:67", after := #[{ on := 13, ground := Ground.data }], guard := none }) (v := ?v31) rfl (by kernel_rfl) (by kernel_rfl) (by kernel_rfl) (by kernel_rfl) (fun _ _ _ h => h) (Or.inl ⟨by rfl, ?hy31⟩) (by assumption) ?rest31
          case hy31 => (intro w hSw; (try dsimp only at hSw); go_simp <;> with_reducible rfl)
          try simp only [Act.put, List.setIfInBounds_toArray, List.set_cons_zero, List.set_cons_succ]
          refine wpAnyF_take (i := 17) (oi := { dst := some 90, op := Op.move (Operand.tmp 0), type := 22, pos := "outright.go:67", after := #[], guard := none }) (v := ?v32) rfl (by kernel_rfl) (by kernel_rfl) (by kernel_rfl) (by kernel_rfl) (fun _ _ _ h => h) (Or.inl ⟨by rfl, ?hy32⟩) (by assumption) ?rest32
          case hy32 => (intro w hSw; (try dsimp only at hSw); go_simp <;> with_reducible rfl)
          try simp only [Act.put, List.setIfInBounds_toArray, List.set_cons_zero, List.set_cons_succ]
          refine wpAnyF_take (i := 18) (oi := { dst := some 91, op := Op.move (Operand.tmp 4), type := 3, pos := "outright.go:67", after := #[], guard := none }) (v := ?v33) rfl (by kernel_rfl) (by kernel_rfl) (by kernel_rfl) (by kernel_rfl) (fun _ _ _ h => h) (Or.inl ⟨by rfl, ?hy33⟩) (by assumption) ?rest33
          case hy33 => (intro w hSw; (try dsimp only at hSw); go_simp <;> with_reducible rfl)
          try simp only [Act.put, List.setIfInBounds_toArray, List.set_cons_zero, List.set_cons_succ]
          refine wpAnyF_take (i := 19) (oi := { dst := some 92, op := Op.indexAddr 22 (Operand.tmp 90) (Operand.tmp 91), type := 0, pos := "outright.go:67", after := #[{ on := 17, ground := Ground.data }, { on := 18, ground := Ground.data }], guard := none }) (v := ?v34) rfl (by kernel_rfl) (by kernel_rfl) (by kernel_rfl) (by kernel_rfl) (fun _ _ _ h => h) (Or.inl ⟨by rfl, ?hy34⟩) (by assumption) ?rest34
          case hy34 => (intro w hSw; (try dsimp only at hSw); go_simp <;> with_reducible rfl)
          try simp only [Act.put, List.setIfInBounds_toArray, List.set_cons_zero, List.set_cons_succ]
          refine wpAnyF_take (i := 20) (oi := { dst := some 93, op := Op.fieldAddr 57 (Operand.tmp 92) 2, type := 0, pos := "outright.go:67", after := #[{ on := 19, ground := Ground.data }], guard := none }) (v := ?v35) rfl (by kernel_rfl) (by kernel_rfl) (by kernel_rfl) (by kernel_rfl) (fun _ _ _ h => h) (Or.inl ⟨by rfl, ?hy35⟩) (by assumption) ?rest35
          case hy35 => (intro w hSw; (try dsimp only at hSw); go_simp <;> with_reducible rfl)
          try simp only [Act.put, List.setIfInBounds_toArray, List.set_cons_zero, List.set_cons_succ]
          refine wpAnyF_take (i := 21) (oi := { dst := some 94, op := Op.load 40 (Operand.tmp 93), type := 40, pos := "outright.go:67", after := #[{ on := 20, ground := Ground.data }], guard := none }) (v := ?v36) rfl (by kernel_rfl) (by kernel_rfl) (by kernel_rfl) (by kernel_rfl) (fun _ _ _ h => h) (Or.inl ⟨by rfl, ?hy36⟩) (by assumption) ?rest36
          case hy36 => (intro w hSw; (try dsimp only at hSw); go_simp <;> with_reducible rfl)
          try simp only [Act.put, List.setIfInBounds_toArray, List.set_cons_zero, List.set_cons_succ]
          refine wpAnyF_take (i := 22) (oi := { dst := some 95, op := Op.move (Operand.tmp 8), type := 3, pos := "outright.go:67", after := #[], guard := none }) (v := ?v37) rfl (by kernel_rfl) (by kernel_rfl) (by kernel_rfl) (by kernel_rfl) (fun _ _ _ h => h) (Or.inl ⟨by rfl, ?hy37⟩) (by assumption) ?rest37
          case hy37 => (intro w hSw; (try dsimp only at hSw); go_simp <;> with_reducible rfl)
          try simp only [Act.put, List.setIfInBounds_toArray, List.set_cons_zero, List.set_cons_succ]
          refine wpAnyF_take (i := 23) (oi := { dst := some 96, op := Op.indexAddr 40 (Operand.tmp 94) (Operand.tmp 95), type := 0, pos := "outright.go:67", after := #[{ on := 21, ground := Ground.data }, { on := 22, ground := Ground.data }], guard := none }) (v := ?v38) rfl (by kernel_rfl) (by kernel_rfl) (by kernel_rfl) (by kernel_rfl) (fun _ _ _ h => h) (Or.inl ⟨by rfl, ?hy38⟩) (by assumption) ?rest38
          case hy38 => (intro w hSw; (try dsimp only at hSw); go_simp <;> with_reducible rfl)
          try simp only [Act.put, List.setIfInBounds_toArray, List.set_cons_zero, List.set_cons_succ]
          refine wpAnyF_take (i := 24) (oi := { dst := some 97, op := Op.load 9 (Operand.tmp 96), type := 9, pos := "outright.go:67", after := #[{ on := 23, ground := Ground.data }], guard := none }) (v := ?v39) rfl (by kernel_rfl) (by kernel_rfl) (by kernel_rfl) (by kernel_rfl) (fun _ _ _ h => h) (Or.inl ⟨by rfl, ?hy39⟩) (by assumption) ?rest39
          case hy39 => (intro w hSw; (try dsimp only at hSw); go_simp <;> with_reducible rfl)
          try simp only [Act.put, List.setIfInBounds_toArray, List.set_cons_zero, List.set_cons_succ]
          refine wpAnyF_ready (rs := [5, 15]) (by kernel_rfl) (by simp) (AllReadyF.cons (o := { dst := some 78, op := Op.buildSlice 59 1 #[(0, Operand.tmp 77)], type := 59, pos := "outright.go:67", after := #[{ on := 4, ground := Ground.data }], guard := none }) rfl (fun K hK => ?_) (AllReadyF.cons (o := { dst := some 88, op := Op.call { callee := Callee.value (Operand.func 21), args := #[Operand.tmp 87], argTypes := #[9] }, type := 9, pos := "outright.go:67", after := #[{ on := 14, ground := Ground.data }], guard := none }) rfl (fun K hK => ?_) (AllReadyF.nil)))
          · have hL := hL.alloc hL.size (.cells #[.int .u8 (97 + (q : Int))] 5)
            go_simp
            refine hK.out _ _ (HS2.out _ hL) (fun hHeld => ?_)
            clear hK K
            try simp only [Act.put, List.setIfInBounds_toArray, List.set_cons_zero, List.set_cons_succ]
            refine wpAnyF_ready (rs := [6, 15]) (by kernel_rfl) (by simp) (AllReadyF.cons (o := { dst := some 79, op := Op.convert 59 9 (Operand.tmp 78), type := 9, pos := "outright.go:67", after := #[{ on := 5, ground := Ground.data }], guard := none }) rfl (fun K hK => ?_) (AllReadyF.cons (o := { dst := some 88, op := Op.call { callee := Callee.value (Operand.func 21), args := #[Operand.tmp 87], argTypes := #[9] }, type := 9, pos := "outright.go:67", after := #[{ on := 14, ground := Ground.data }], guard := none }) rfl (fun K hK => ?_) (AllReadyF.nil)))
            · have hG : ((wr.alloc (.cells #[.int .u8 (97 + (q : Int))] 5)).drew).heap[wr.heap.size]? = some (.cells #[.int .u8 (97 + (q : Int))] 5) := theap_new wr _
              have hcv := lit1_conv hG (show (97 + (q : Int)) = ((97 + q : Nat) : Int) by omega)
              go_simp
              refine hK.out _ _ hHeld (fun hHeld => ?_)
              clear hK K
              try simp only [Act.put, List.setIfInBounds_toArray, List.set_cons_zero, List.set_cons_succ]
              refine wpAnyF_ready (rs := [15]) (by kernel_rfl) (by simp) (AllReadyF.cons (o := { dst := some 88, op := Op.call { callee := Callee.value (Operand.func 21), args := #[Operand.tmp 87], argTypes := #[9] }, type := 9, pos := "outright.go:67", after := #[{ on := 14, ground := Ground.data }], guard := none }) rfl (fun K hK => ?_) (AllReadyF.nil))
              refine xstep1 ?_ _ (.tmp 87) #[9] ?_ ent_name _ ?_ _ (cN _) ?_
              · rfl
              · rfl
              · rfl
              rintro _ w1 ⟨⟨s1, rfl, hz1⟩, hb1⟩
              have hcat : ¬ 9223372036854775807 < (sOf [97 + q]).size + s1.size := by rw [sOf_size]; show ¬ 9223372036854775807 < 1 + s1.size; omega
              have hL := hL.trans (hb1.mono hL.size)
              refine hK.out _ _ (HS2.out _ hL) (fun hHeld => ?_)
              clear hK K
              try simp only [Act.put, List.setIfInBounds_toArray, List.set_cons_zero, List.set_cons_succ]
              refine wpAnyF_take (i := 16) (oi := { dst := some 89, op := Op.binOp BinOp.add 9 (Operand.tmp 79) (Operand.tmp 88) 9, type := 9, pos := "outright.go:67", after := #[{ on := 6, ground := Ground.data }, { on := 15, ground := Ground.data }], guard := none }) (v := ?v40) rfl (by kernel_rfl) (by kernel_rfl) (by kernel_rfl) (by kernel_rfl) (fun _ _ _ h => h) (Or.inl ⟨by rfl, ?hy40⟩) (by assumption) ?rest40
              case hy40 => (intro w hSw; (try dsimp only at hSw); go_simp <;> with_reducible rfl)
              try simp only [Act.put, List.setIfInBounds_toArray, List.set_cons_zero, List.set_cons_succ]
              refine wpAnyF_ready (rs := [25]) (by kernel_rfl) (by simp) (AllReadyF.cons (o := { dst := some 98, op := Op.call { callee := Callee.value (Operand.func 22), args := #[Operand.tmp 97], argTypes := #[9] }, type := 9, pos := "outright.go:67", after := #[{ on := 24, ground := Ground.data }, { on := 15, ground := Ground.chain }], guard := none }) rfl (fun K hK => ?_) (AllReadyF.nil))
              refine xstep1 ?_ _ (.tmp 97) #[9] ?_ ent_value _ ?_ _ (cV _) ?_
              · rfl
              · rfl
              · rfl
              rintro _ w2 ⟨⟨s2, rfl⟩, hb2⟩
              have hL := hL.trans (hb2.mono hL.size)
              refine hK.out _ _ (HS2.out _ hL) (fun hHeld => ?_)
              clear hK K
              try simp only [Act.put, List.setIfInBounds_toArray, List.set_cons_zero, List.set_cons_succ]
              refine wpAnyF_take (i := 26) (oi := { dst := some 99, op := Op.build 54 #[(0, Operand.tmp 89), (1, Operand.tmp 98)], type := 54, pos := "outright.go:67", after := #[{ on := 16, ground := Ground.data }, { on := 25, ground := Ground.data }], guard := none }) (v := ?v41) rfl (by kernel_rfl) (by kernel_rfl) (by kernel_rfl) (by kernel_rfl) (fun _ _ _ h => h) (Or.inl ⟨by rfl, ?hy41⟩) (by assumption) ?rest41
              case hy41 => (intro w hSw; (try dsimp only at hSw); go_simp <;> with_reducible rfl)
              try simp only [Act.put, List.setIfInBounds_toArray, List.set_cons_zero, List.set_cons_succ]
              refine wpAnyF_ready (rs := [27]) (by kernel_rfl) (by simp) (AllReadyF.cons (o := { dst := some 100, op := Op.buildSlice 30 1 #[(0, Operand.tmp 99)], type := 30, pos := "outright.go:67", after := #[{ on := 26, ground := Ground.data }], guard := none }) rfl (fun K hK => ?_) (AllReadyF.nil))
              obtain ⟨p3, c3, w3, run3, cx3, fx3, hb3, F3, h3⟩ := (HM.out.below hL).attr hxav hxq (by omega) (Nat.le_trans hwr hL.size) (sOf [97 + q] ++ s1) s2
              have hb3' := HB.out.trans ((hL.mono hwr).trans hb3)
              obtain ⟨hg3, hga3⟩ := HC.out _ _ hb3'
              replace h3 := Hid.mkT h3
              replace hb3' := Hid.mkT hb3'
              clear hb3
              go_simp
              refine hK.out _ _ (HS2.out _ (hL.alloc hL.size _)) (fun hHeld => ?_)
              clear hK K
              try simp only [Act.put, List.setIfInBounds_toArray, List.set_cons_zero, List.set_cons_succ]
              refine wpAnyF_ready (rs := [28]) (by kernel_rfl) (by simp) (AllReadyF.cons (o := { dst := some 101, op := Op.call { callee := Callee.builtin Builtin.append, args := #[Operand.tmp 74, Operand.tmp 100], argTypes := #[30, 30] }, type := 30, pos := "outright.go:67", after := #[{ on := 1, ground := Ground.data }, { on := 27, ground := Ground.data }, { on := 25, ground := Ground.chain }], guard := none }) rfl (fun K hK => ?_) (AllReadyF.nil))
              refine step_append_ex ?_ (.tmp 74) (.tmp 100) _ _ ?_ _ _ ?_ ?_ (fun a b => a = _ ∧ b = w3) ⟨_, w3, run3, rfl, rfl⟩ ?_
              · rfl
              · rfl
              · rfl
              · rfl
              rintro _ _ ⟨rfl, rfl⟩
              refine hK.out _ _ ⟨hg3, hga3, cx3⟩ (fun hHeld => ?_)
              clear hK K
              try simp only [Act.put, List.setIfInBounds_toArray, List.set_cons_zero, List.set_cons_succ]
              refine wpAnyF_take (i := 29) (oi := { dst := some 102, op := Op.fieldAddr 32 (Operand.tmp 7) 2, type := 0, pos := "outright.go:67", after := #[{ on := 0, ground := Ground.phase }, { on := 1, ground := Ground.phase }, { on := 2, ground := Ground.phase }, { on := 3, ground := Ground.phase }, { on := 4, ground := Ground.phase }, { on := 5, ground := Ground.phase }, { on := 6, ground := Ground.phase }, { on := 7, ground := Ground.phase }, { on := 8, ground := Ground.phase }, { on := 9, ground := Ground.phase }, { on := 10, ground := Ground.phase }, { on := 11, ground := Ground.phase }, { on := 12, ground := Ground.phase }, { on := 13, ground := Ground.phase }, { on := 14, ground := Ground.phase }, { on := 15, ground := Ground.phase }, { on := 16, ground := Ground.phase }, { on := 17, ground := Ground.phase }, { on := 18, ground := Ground.phase }, { on := 19, ground := Ground.phase }, { on := 20, ground := Ground.phase }, { on := 21, ground := Ground.phase }, { on := 22, ground := Ground.phase }, { on := 23, ground := Ground.phase }, { on := 24, ground := Ground.phase }, { on := 25, ground := Ground.phase }, { on := 26, ground := Ground.phase }, { on := 27, ground := Ground.phase }, { on := 28, ground := Ground.phase }], guard := none }) (v := ?v42) rfl (by kernel_rfl) (by kernel_rfl) (by kernel_rfl) (by kernel_rfl) (fun _ _ _ h => h) (Or.inl ⟨by rfl, ?hy42⟩) (by assumption) ?rest42
              case hy42 => (intro w hSw; (try dsimp only at hSw); go_simp <;> with_reducible rfl)
              try simp only [Act.put, List.setIfInBounds_toArray, List.set_cons_zero, List.set_cons_succ]
              refine wpAnyF_ready (rs := [30]) (by kernel_rfl) (by simp) (AllReadyF.last (o := { dst := none, op := Op.store 30 (Operand.tmp 102) (Operand.tmp 101), type := 0, pos := "outright.go:67", after := #[{ on := 29, ground := Ground.data }, { on := 28, ground := Ground.data }, { on := 28, ground := Ground.chain }, { on := 0, ground := Ground.phase }, { on := 1, ground := Ground.phase }, { on := 2, ground := Ground.phase }, { on := 3, ground := Ground.phase }, { on := 4, ground := Ground.phase }, { on := 5, ground := Ground.phase }, { on := 6, ground := Ground.phase }, { on := 7, ground := Ground.phase }, { on := 8, ground := Ground.phase }, { on := 9, ground := Ground.phase }, { on := 10, ground := Ground.phase }, { on := 11, ground := Ground.phase }, { on := 12, ground := Ground.phase }, { on := 13, ground := Ground.phase }, { on := 14, ground := Ground.phase }, { on := 15, ground := Ground.phase }, { on := 16, ground := Ground.phase }, { on := 17, ground := Ground.phase }, { on := 18, ground := Ground.phase }, { on := 19, ground := Ground.phase }, { on := 20, ground := Ground.phase }, { on := 21, ground := Ground.phase }, { on := 22, ground := Ground.phase }, { on := 23, ground := Ground.phase }, { on := 24, ground := Ground.phase }, { on := 25, ground := Ground.phase }, { on := 26, ground := Ground.phase }, { on := 27, ground := Ground.phase }, { on := 28, ground := Ground.phase }], guard := none }) rfl (fun K hK => ?_) (AllReadyF.nil))
              go_simp
              refine hK.out _ _ trivial (fun hHeld => ?_)
              clear hK K
              try simp only [Act.put, List.setIfInBounds_toArray, List.set_cons_zero, List.set_cons_succ]
              refine wpAnyF_done (by kernel_rfl) ?_ _
              go_wp2_with fail
              go_roundw
              case rel => exact ⟨q + 1, F3, _, by omega, by omega, by go_num, h3.out, hxd, by rw [List.length_append, hxq]; rfl, hb3'.out⟩
              case measure => simp [RowKit.intOf]; omega
            · refine xstep1 ?_ _ (.tmp 87) #[9] ?_ ent_name _ ?_ _ (cN _) ?_
              · rfl
              · rfl
              · rfl
              rintro _ w1 ⟨⟨s1, rfl, hz1⟩, hb1⟩
              have hcat : ¬ 9223372036854775807 < (sOf [97 + q]).size + s1.size := by rw [sOf_size]; show ¬ 9223372036854775807 < 1 + s1.size; omega
              have hL := hL.trans (hb1.mono hL.size)
              refine hK.out _ _ (HS2.out _ hL) (fun hHeld => ?_)
              clear hK K
              try simp only [Act.put, List.setIfInBounds_toArray, List.set_cons_zero, List.set_cons_succ]
              refine wpAnyF_ready (rs := [6, 25]) (by kernel_rfl) (by simp) (AllReadyF.cons (o := { dst := some 79, op := Op.convert 59 9 (Operand.tmp 78), type := 9, pos := "outright.go:67", after := #[{ on := 5, ground := Ground.data }], guard := none }) rfl (fun K hK => ?_) (AllReadyF.cons (o := { dst := some 98, op := Op.call { callee := Callee.value (Operand.func 22), args := #[Operand.tmp 97], argTypes := #[9] }, type := 9, pos := "outright.go:67", after := #[{ on := 24, ground := Ground.data }, { on := 15, ground := Ground.chain }], guard := none }) rfl (fun K hK => ?_) (AllReadyF.nil)))
              · have hG : (w1).heap[wr.heap.size]? = some (.cells #[.int .u8 (97 + (q : Int))] 5) := (hb1.block _ (lt_of_heap (theap_new wr _))).trans (theap_new wr _)
                have hcv := lit1_conv hG (show (97 + (q : Int)) = ((97 + q : Nat) : Int) by omega)
                go_simp
                refine hK.out _ _ hHeld (fun hHeld => ?_)
                clear hK K
                try simp only [Act.put, List.setIfInBounds_toArray, List.set_cons_zero, List.set_cons_succ]
                refine wpAnyF_take (i := 16) (oi := { dst := some 89, op := Op.binOp BinOp.add 9 (Operand.tmp 79) (Operand.tmp 88) 9, type := 9, pos := "outright.go:67", after := #[{ on := 6, ground := Ground.data }, { on := 15, ground := Ground.data }], guard := none }) (v := ?v43) rfl (by kernel_rfl) (by kernel_rfl) (by kernel_rfl) (by kernel_rfl) (fun _ _ _ h => h) (Or.inl ⟨by rfl, ?hy43⟩) (by assumption) ?rest43
                case hy43 => (intro w hSw; (try dsimp only at hSw); go_simp <;> with_reducible rfl)
                try simp only [Act.put, List.setIfInBounds_toArray, List.set_cons_zero, List.set_cons_succ]
                refine wpAnyF_ready (rs := [25]) (by kernel_rfl) (by simp) (AllReadyF.cons (o := { dst := some 98, op := Op.call { callee := Callee.value (Operand.func 22), args := #[Operand.tmp 97], argTypes := #[9] }, type := 9, pos := "outright.go:67", after := #[{ on := 24, ground := Ground.data }, { on := 15, ground := Ground.chain }], guard := none }) rfl (fun K hK => ?_) (AllReadyF.nil))
                refine xstep1 ?_ _ (.tmp 97) #[9] ?_ ent_value _ ?_ _ (cV _) ?_
                · rfl
                · rfl
                · rfl
                rintro _ w2 ⟨⟨s2, rfl⟩, hb2⟩
                have hL := hL.trans (hb2.mono hL.size)
                refine hK.out _ _ (HS2.out _ hL) (fun hHeld => ?_)
                clear hK K
                try simp only [Act.put, List.setIfInBounds_toArray, List.set_cons_zero, List.set_cons_succ]
                refine wpAnyF_take (i := 26) (oi := { dst := some 99, op := Op.build 54 #[(0, Operand.tmp 89), (1, Operand.tmp 98)], type := 54, pos := "outright.go:67", after := #[{ on := 16, ground := Ground.data }, { on := 25, ground := Ground.data }], guard := none }) (v := ?v44) rfl (by kernel_rfl) (by kernel_rfl) (by kernel_rfl) (by kernel_rfl) (fun _ _ _ h => h) (Or.inl ⟨by rfl, ?hy44⟩) (by assumption) ?rest44
                case hy44 => (intro w hSw; (try dsimp only at hSw); go_simp <;> with_reducible rfl)
                try simp only [Act.put, List.setIfInBounds_toArray, List.set_cons_zero, List.set_cons_succ]
                refine wpAnyF_ready (rs := [27]) (by kernel_rfl) (by simp) (AllReadyF.cons (o := { dst := some 100, op := Op.buildSlice 30 1 #[(0, Operand.tmp 99)], type := 30, pos := "outright.go:67", after := #[{ on := 26, ground := Ground.data }], guard := none }) rfl (fun K hK => ?_) (AllReadyF.nil))
                obtain ⟨p3, c3, w3, run3, cx3, fx3, hb3, F3, h3⟩ := (HM.out.below hL).attr hxav hxq (by omega) (Nat.le_trans hwr hL.size) (sOf [97 + q] ++ s1) s2
                have hb3' := HB.out.trans ((hL.mono hwr).trans hb3)
                obtain ⟨hg3, hga3⟩ := HC.out _ _ hb3'
                replace h3 := Hid.mkT h3
                replace hb3' := Hid.mkT hb3'
                clear hb3
                go_simp
                refine hK.out _ _ (HS2.out _ (hL.alloc hL.size _)) (fun hHeld => ?_)
                clear hK K
                try simp only [Act.put, List.setIfInBounds_toArray, List.set_cons_zero, List.set_cons_succ]
                refine wpAnyF_ready (rs := [28]) (by kernel_rfl) (by simp) (AllReadyF.cons (o := { dst := some 101, op := Op.call { callee := Callee.builtin Builtin.append, args := #[Operand.tmp 74, Operand.tmp 100], argTypes := #[30, 30] }, type := 30, pos := "outright.go:67", after := #[{ on := 1, ground := Ground.data }, { on := 27, ground := Ground.data }, { on := 25, ground := Ground.chain }], guard := none }) rfl (fun K hK => ?_) (AllReadyF.nil))
                refine step_append_ex ?_ (.tmp 74) (.tmp 100) _ _ ?_ _ _ ?_ ?_ (fun a b => a = _ ∧ b = w3) ⟨_, w3, run3, rfl, rfl⟩ ?_
                · rfl
                · rfl
                · rfl
                · rfl
                rintro _ _ ⟨rfl, rfl⟩
                refine hK.out _ _ ⟨hg3, hga3, cx3⟩ (fun hHeld => ?_)
                clear hK K
                try simp only [Act.put, List.setIfInBounds_toArray, List.set_cons_zero, List.set_cons_succ]
                refine wpAnyF_take (i := 29) (oi := { dst := some 102, op := Op.fieldAddr 32 (Operand.tmp 7) 2, type := 0, pos := "outright.go:67", after := #[{ on := 0, ground := Ground.phase }, { on := 1, ground := Ground.phase }, { on := 2, ground := Ground.phase }, { on := 3, ground := Ground.phase }, { on := 4, ground := Ground.phase }, { on := 5, ground := Ground.phase }, { on := 6, ground := Ground.phase }, { on := 7, ground := Ground.phase }, { on := 8, ground := Ground.phase }, { on := 9, ground := Ground.phase }, { on := 10, ground := Ground.phase }, { on := 11, ground := Ground.phase }, { on := 12, ground := Ground.phase }, { on := 13, ground := Ground.phase }, { on := 14, ground := Ground.phase }, { on := 15, ground := Ground.phase }, { on := 16, ground := Ground.phase }, { on := 17, ground := Ground.phase }, { on := 18, ground := Ground.phase }, { on := 19, ground := Ground.phase }, { on := 20, ground := Ground.phase }, { on := 21, ground := Ground.phase }, { on := 22, ground := Ground.phase }, { on := 23, ground := Ground.phase }, { on := 24, ground := Ground.phase }, { on := 25, ground := Ground.phase }, { on := 26, ground := Ground.phase }, { on := 27, ground := Ground.phase }, { on := 28, ground := Ground.phase }], guard := none }) (v := ?v45) rfl (by kernel_rfl) (by kernel_rfl) (by kernel_rfl) (by kernel_rfl) (fun _ _ _ h => h) (Or.inl ⟨by rfl, ?hy45⟩) (by assumption) ?rest45
                case hy45 => (intro w hSw; (try dsimp only at hSw); go_simp <;> with_reducible rfl)
                try simp only [Act.put, List.setIfInBounds_toArray, List.set_cons_zero, List.set_cons_succ]
                refine wpAnyF_ready (rs := [30]) (by kernel_rfl) (by simp) (AllReadyF.last (o := { dst := none, op := Op.store 30 (Operand.tmp 102) (Operand.tmp 101), type := 0, pos := "outright.go:67", after := #[{ on := 29, ground := Ground.data }, { on := 28, ground := Ground.data }, { on := 28, ground := Ground.chain }, { on := 0, ground := Ground.phase }, { on := 1, ground := Ground.phase }, { on := 2, ground := Ground.phase }, { on := 3, ground := Ground.phase }, { on := 4, ground := Ground.phase }, { on := 5, ground := Ground.phase }, { on := 6, ground := Ground.phase }, { on := 7, ground := Ground.phase }, { on := 8, ground := Ground.phase }, { on := 9, ground := Ground.phase }, { on := 10, ground := Ground.phase }, { on := 11, ground := Ground.phase }, { on := 12, ground := Ground.phase }, { on := 13, ground := Ground.phase }, { on := 14, ground := Ground.phase }, { on := 15, ground := Ground.phase }, { on := 16, ground := Ground.phase }, { on := 17, ground := Ground.phase }, { on := 18, ground := Ground.phase }, { on := 19, ground := Ground.phase }, { on := 20, ground := Ground.phase }, { on := 21, ground := Ground.phase }, { on := 22, ground := Ground.phase }, { on := 23, ground := Ground.phase }, { on := 24, ground := Ground.phase }, { on := 25, ground := Ground.phase }, { on := 26, ground := Ground.phase }, { on := 27, ground := Ground.phase }, { on := 28, ground := Ground.phase }], guard := none }) rfl (fun K hK => ?_) (AllReadyF.nil))
                go_simp
                refine hK.out _ _ trivial (fun hHeld => ?_)
                clear hK K
                try simp only [Act.put, List.setIfInBounds_toArray, List.set_cons_zero, List.set_cons_succ]
                refine wpAnyF_done (by kernel_rfl) ?_ _
                go_wp2_with fail
                go_roundw
                case rel => exact ⟨q + 1, F3, _, by omega, by omega, by go_num, h3.out, hxd, by rw [List.length_append, hxq]; rfl, hb3'.out⟩
                case measure => simp [RowKit.intOf]; omega
              · refine xstep1 ?_ _ (.tmp 97) #[9] ?_ ent_value _ ?_ _ (cV _) ?_
                · rfl
                · rfl
                · rfl
                rintro _ w2 ⟨⟨s2, rfl⟩, hb2⟩
                have hL := hL.trans (hb2.mono hL.size)
                refine hK.out _ _ (HS2.out _ hL) (fun hHeld => ?_)
                clear hK K
                try simp only [Act.put, List.setIfInBounds_toArray, List.set_cons_zero, List.set_cons_succ]
                refine wpAnyF_ready (rs := [6]) (by kernel_rfl) (by simp) (AllReadyF.cons (o := { dst := some 79, op := Op.convert 59 9 (Operand.tmp 78), type := 9, pos := "outright.go:67", after := #[{ on := 5, ground := Ground.data }], guard := none }) rfl (fun K hK => ?_) (AllReadyF.nil))
                have hG : (w2).heap[wr.heap.size]? = some (.cells #[.int .u8 (97 + (q : Int))] 5) := (hb2.block _ (lt_of_heap ((hb1.block _ (lt_of_heap (theap_new wr _))).trans (theap_new wr _)))).trans ((hb1.block _ (lt_of_heap (theap_new wr _))).trans (theap_new wr _))
                have hcv := lit1_conv hG (show (97 + (q : Int)) = ((97 + q : Nat) : Int) by omega)
                go_simp
                refine hK.out _ _ hHeld (fun hHeld => ?_)
                clear hK K
                try simp only [Act.put, List.setIfInBounds_toArray, List.set_cons_zero, List.set_cons_succ]
                refine wpAnyF_take (i := 16) (oi := { dst := some 89, op := Op.binOp BinOp.add 9 (Operand.tmp 79) (Operand.tmp 88) 9, type := 9, pos := "outright.go:67", after := #[{ on := 6, ground := Ground.data }, { on := 15, ground := Ground.data }], guard := none }) (v := ?v46) rfl (by kernel_rfl) (by kernel_rfl) (by kernel_rfl) (by kernel_rfl) (fun _ _ _ h => h) (Or.inl ⟨by rfl, ?hy46⟩) (by assumption) ?rest46
                case hy46 => (intro w hSw; (try dsimp only at hSw); go_simp <;> with_reducible rfl)
                try simp only [Act.put, List.setIfInBounds_toArray, List.set_cons_zero, List.set_cons_succ]
                refine wpAnyF_take (i := 26) (oi := { dst := some 99, op := Op.build 54 #[(0, Operand.tmp 89), (1, Operand.tmp 98)], type := 54, pos := "outright.go:67", after := #[{ on := 16, ground := Ground.data }, { on := 25, ground := Ground.data }], guard := none }) (v := ?v47) rfl (by kernel_rfl) (by kernel_rfl) (by kernel_rfl) (by kernel_rfl) (fun _ _ _ h => h) (Or.inl ⟨by rfl, ?hy47⟩) (by assumption) ?rest47
                case hy47 => (intro w hSw; (try dsimp only at hSw); go_simp <;> with_reducible rfl)
                try simp only [Act.put, List.setIfInBounds_toArray, List.set_cons_zero, List.set_cons_succ]
                refine wpAnyF_ready (rs := [27]) (by kernel_rfl) (by simp) (AllReadyF.cons (o := { dst := some 100, op := Op.buildSlice 30 1 #[(0, Operand.tmp 99)], type := 30, pos := "outright.go:67", after := #[{ on := 26, ground := Ground.data }], guard := none }) rfl (fun K hK => ?_) (AllReadyF.nil))
                obtain ⟨p3, c3, w3, run3, cx3, fx3, hb3, F3, h3⟩ := (HM.out.below hL).attr hxav hxq (by omega) (Nat.le_trans hwr hL.size) (sOf [97 + q] ++ s1) s2
                have hb3' := HB.out.trans ((hL.mono hwr).trans hb3)
                obtain ⟨hg3, hga3⟩ := HC.out _ _ hb3'
                replace h3 := Hid.mkT h3
                replace hb3' := Hid.mkT hb3'
                clear hb3
                go_simp
                refine hK.out _ _ (HS2.out _ (hL.alloc hL.size _)) (fun hHeld => ?_)
                clear hK K
                try simp only [Act.put, List.setIfInBounds_toArray, List.set_cons_zero, List.set_cons_succ]
                refine wpAnyF_ready (rs := [28]) (by kernel_rfl) (by simp) (AllReadyF.cons (o := { dst := some 101, op := Op.call { callee := Callee.builtin Builtin.append, args := #[Operand.tmp 74, Operand.tmp 100], argTypes := #[30, 30] }, type := 30, pos := "outright.go:67", after := #[{ on := 1, ground := Ground.data }, { on := 27, ground := Ground.data }, { on := 25, ground := Ground.chain }], guard := none }) rfl (fun K hK => ?_) (AllReadyF.nil))
                refine step_append_ex ?_ (.tmp 74) (.tmp 100) _ _ ?_ _ _ ?_ ?_ (fun a b => a = _ ∧ b = w3) ⟨_, w3, run3, rfl, rfl⟩ ?_
                · rfl
                · rfl
                · rfl
                · rfl
                rintro _ _ ⟨rfl, rfl⟩
                refine hK.out _ _ ⟨hg3, hga3, cx3⟩ (fun hHeld => ?_)
                clear hK K
                try simp only [Act.put, List.setIfInBounds_toArray, List.set_cons_zero, List.set_cons_succ]
                refine wpAnyF_take (i := 29) (oi := { dst := some 102, op := Op.fieldAddr 32 (Operand.tmp 7) 2, type := 0, pos := "outright.go:67", after := #[{ on := 0, ground := Ground.phase }, { on := 1, ground := Ground.phase }, { on := 2, ground := Ground.phase }, { on := 3, ground := Ground.phase }, { on := 4, ground := Ground.phase }, { on := 5, ground := Ground.phase }, { on := 6, ground := Ground.phase }, { on := 7, ground := Ground.phase }, { on := 8, ground := Ground.phase }, { on := 9, ground := Ground.phase }, { on := 10, ground := Ground.phase }, { on := 11, ground := Ground.phase }, { on := 12, ground := Ground.phase }, { on := 13, ground := Ground.phase }, { on := 14, ground := Ground.phase }, { on := 15, ground := Ground.phase }, { on := 16, ground := Ground.phase }, { on := 17, ground := Ground.phase }, { on := 18, ground := Ground.phase }, { on := 19, ground := Ground.phase }, { on := 20, ground := Ground.phase }, { on := 21, ground := Ground.phase }, { on := 22, ground := Ground.phase }, { on := 23, ground := Ground.phase }, { on := 24, ground := Ground.phase }, { on := 25, ground := Ground.phase }, { on := 26, ground := Ground.phase }, { on := 27, ground := Ground.phase }, { on := 28, ground := Ground.phase }], guard := none }) (v := ?v48) rfl (by kernel_rfl) (by kernel_rfl) (by kernel_rfl) (by kernel_rfl) (fun _ _ _ h => h) (Or.inl ⟨by rfl, ?hy48⟩) (by assumption) ?rest48
                case hy48 => (intro w hSw; (try dsimp only at hSw); go_simp <;> with_reducible rfl)
                try simp only [Act.put, List.setIfInBounds_toArray, List.set_cons_zero, List.set_cons_succ]
                refine wpAnyF_ready (rs := [30]) (by kernel_rfl) (by simp) (AllReadyF.last (o := { dst := none, op := Op.store 30 (Operand.tmp 102) (Operand.tmp 101), type := 0, pos := "outright.go:67", after := #[{ on := 29, ground := Ground.data }, { on := 28, ground := Ground.data }, { on := 28, ground := Ground.chain }, { on := 0, ground := Ground.phase }, { on := 1, ground := Ground.phase }, { on := 2, ground := Ground.phase }, { on := 3, ground := Ground.phase }, { on := 4, ground := Ground.phase }, { on := 5, ground := Ground.phase }, { on := 6, ground := Ground.phase }, { on := 7, ground := Ground.phase }, { on := 8, ground := Ground.phase }, { on := 9, ground := Ground.phase }, { on := 10, ground := Ground.phase }, { on := 11, ground := Ground.phase }, { on := 12, ground := Ground.phase }, { on := 13, ground := Ground.phase }, { on := 14, ground := Ground.phase }, { on := 15, ground := Ground.phase }, { on := 16, ground := Ground.phase }, { on := 17, ground := Ground.phase }, { on := 18, ground := Ground.phase }, { on := 19, ground := Ground.phase }, { on := 20, ground := Ground.phase }, { on := 21, ground := Ground.phase }, { on := 22, ground := Ground.phase }, { on := 23, ground := Ground.phase }, { on := 24, ground := Ground.phase }, { on := 25, ground := Ground.phase }, { on := 26, ground := Ground.phase }, { on := 27, ground := Ground.phase }, { on := 28, ground := Ground.phase }], guard := none }) rfl (fun K hK => ?_) (AllReadyF.nil))
                go_simp
                refine hK.out _ _ trivial (fun hHeld => ?_)
                clear hK K
                try simp only [Act.put, List.setIfInBounds_toArray, List.set_cons_zero, List.set_cons_succ]
                refine wpAnyF_done (by kernel_rfl) ?_ _
                go_wp2_with fail
                go_roundw
                case rel => exact ⟨q + 1, F3, _, by omega, by omega, by go_num, h3.out, hxd, by rw [List.length_append, hxq]; rfl, hb3'.out⟩
                case measure => simp [RowKit.intOf]; omega
          · refine xstep1 ?_ _ (.tmp 87) #[9] ?_ ent_name _ ?_ _ (cN _) ?_
            · rfl
            · rfl
            · rfl
            rintro _ w1 ⟨⟨s1, rfl, hz1⟩, hb1⟩
            have hcat : ¬ 9223372036854775807 < (sOf [97 + q]).size + s1.size := by rw [sOf_size]; show ¬ 9223372036854775807 < 1 + s1.size; omega
            have hL := hL.trans (hb1.mono hL.size)
            refine hK.out _ _ (HS2.out _ hL) (fun hHeld => ?_)
            clear hK K
            try simp only [Act.put, List.setIfInBounds_toArray, List.set_cons_zero, List.set_cons_succ]
            refine wpAnyF_ready (rs := [5, 25]) (by kernel_rfl) (by simp) (AllReadyF.cons (o := { dst := some 78, op := Op.buildSlice 59 1 #[(0, Operand.tmp 77)], type := 59, pos := "outright.go:67", after := #[{ on := 4, ground := Ground.data }], guard := none }) rfl (fun K hK => ?_) (AllReadyF.cons (o := { dst := some 98, op := Op.call { callee := Callee.value (Operand.func 22), args := #[Operand.tmp 97], argTypes := #[9] }, type := 9, pos := "outright.go:67", after := #[{ on := 24, ground := Ground.data }, { on := 15, ground := Ground.chain }], guard := none }) rfl (fun K hK => ?_) (AllReadyF.nil)))
            · have hL := hL.alloc hL.size (.cells #[.int .u8 (97 + (q : Int))] 5)
              go_simp
              refine hK.out _ _ (HS2.out _ hL) (fun hHeld => ?_)
              clear hK K
              try simp only [Act.put, List.setIfInBounds_toArray, List.set_cons_zero, List.set_cons_succ]
              refine wpAnyF_ready (rs := [6, 25]) (by kernel_rfl) (by simp) (AllReadyF.cons (o := { dst := some 79, op := Op.convert 59 9 (Operand.tmp 78), type := 9, pos := "outright.go:67", after := #[{ on := 5, ground := Ground.data }], guard := none }) rfl (fun K hK => ?_) (AllReadyF.cons (o := { dst := some 98, op := Op.call { callee := Callee.value (Operand.func 22), args := #[Operand.tmp 97], argTypes := #[9] }, type := 9, pos := "outright.go:67", after := #[{ on := 24, ground := Ground.data }, { on := 15, ground := Ground.chain }], guard := none }) rfl (fun K hK => ?_) (AllReadyF.nil)))
              · have hG : ((w1.alloc (.cells #[.int .u8 (97 + (q : Int))] 5))).heap[w1.heap.size]? = some (.cells #[.int .u8 (97 + (q : Int))] 5) := theap_new w1 _
                have hcv := lit1_conv hG (show (97 + (q : Int)) = ((97 + q : Nat) : Int) by omega)
                go_simp
                refine hK.out _ _ hHeld (fun hHeld => ?_)
                clear hK K
                try simp only [Act.put, List.setIfInBounds_toArray, List.set_cons_zero, List.set_cons_succ]
                refine wpAnyF_take (i := 16) (oi := { dst := some 89, op := Op.binOp BinOp.add 9 (Operand.tmp 79) (Operand.tmp 88) 9, type := 9, pos := "outright.go:67", after := #[{ on := 6, ground := Ground.data }, { on := 15, ground := Ground.data }], guard := none }) (v := ?v49) rfl (by kernel_rfl) (by kernel_rfl) (by kernel_rfl) (by kernel_rfl) (fun _ _ _ h => h) (Or.inl ⟨by rfl, ?hy49⟩) (by assumption) ?rest49
                case hy49 => (intro w hSw; (try dsimp only at hSw); go_simp <;> with_reducible rfl)
                try simp only [Act.put, List.setIfInBounds_toArray, List.set_cons_zero, List.set_cons_succ]
                refine wpAnyF_ready (rs := [25]) (by kernel_rfl) (by simp) (AllReadyF.cons (o := { dst := some 98, op := Op.call { callee := Callee.value (Operand.func 22), args := #[Operand.tmp 97], argTypes := #[9] }, type := 9, pos := "outright.go:67", after := #[{ on := 24, ground := Ground.data }, { on := 15, ground := Ground.chain }], guard := none }) rfl (fun K hK => ?_) (AllReadyF.nil))
                refine xstep1 ?_ _ (.tmp 97) #[9] ?_ ent_value _ ?_ _ (cV _) ?_
                · rfl
                · rfl
                · rfl
                rintro _ w2 ⟨⟨s2, rfl⟩, hb2⟩
                have hL := hL.trans (hb2.mono hL.size)
                refine hK.out _ _ (HS2.out _ hL) (fun hHeld => ?_)
                clear hK K
                try simp only [Act.put, List.setIfInBounds_toArray, List.set_cons_zero, List.set_cons_succ]
                refine wpAnyF_take (i := 26) (oi := { dst := some 99, op := Op.build 54 #[(0, Operand.tmp 89), (1, Operand.tmp 98)], type := 54, pos := "outright.go:67", after := #[{ on := 16, ground := Ground.data }, { on := 25, ground := Ground.data }], guard := none }) (v := ?v50) rfl (by kernel_rfl) (by kernel_rfl) (by kernel_rfl) (by kernel_rfl) (fun _ _ _ h => h) (Or.inl ⟨by rfl, ?hy50⟩) (by assumption) ?rest50
                case hy50 => (intro w hSw; (try dsimp only at hSw); go_simp <;> with_reducible rfl)
                try simp only [Act.put, List.setIfInBounds_toArray, List.set_cons_zero, List.set_cons_succ]
                refine wpAnyF_ready (rs := [27]) (by kernel_rfl) (by simp) (AllReadyF.cons (o := { dst := some 100, op := Op.buildSlice 30 1 #[(0, Operand.tmp 99)], type := 30, pos := "outright.go:67", after := #[{ on := 26, ground := Ground.data }], guard := none }) rfl (fun K hK => ?_) (AllReadyF.nil))
                obtain ⟨p3, c3, w3, run3, cx3, fx3, hb3, F3, h3⟩ := (HM.out.below hL).attr hxav hxq (by omega) (Nat.le_trans hwr hL.size) (sOf [97 + q] ++ s1) s2
                have hb3' := HB.out.trans ((hL.mono hwr).trans hb3)
                obtain ⟨hg3, hga3⟩ := HC.out _ _ hb3'
                replace h3 := Hid.mkT h3
                replace hb3' := Hid.mkT hb3'
                clear hb3
                go_simp
                refine hK.out _ _ (HS2.out _ (hL.alloc hL.size _)) (fun hHeld => ?_)
                clear hK K
                try simp only [Act.put, List.setIfInBounds_toArray, List.set_cons_zero, List.set_cons_succ]
                refine wpAnyF_ready (rs := [28]) (by kernel_rfl) (by simp) (AllReadyF.cons (o := { dst := some 101, op := Op.call { callee := Callee.builtin Builtin.append, args := #[Operand.tmp 74, Operand.tmp 100], argTypes := #[30, 30] }, type := 30, pos := "outright.go:67", after := #[{ on := 1, ground := Ground.data }, { on := 27, ground := Ground.data }, { on := 25, ground := Ground.chain }], guard := none }) rfl (fun K hK => ?_) (AllReadyF.nil))
                refine step_append_ex ?_ (.tmp 74) (.tmp 100) _ _ ?_ _ _ ?_ ?_ (fun a b => a = _ ∧ b = w3) ⟨_, w3, run3, rfl, rfl⟩ ?_
                · rfl
                · rfl
                · rfl
                · rfl
                rintro _ _ ⟨rfl, rfl⟩
                refine hK.out _ _ ⟨hg3, hga3, cx3⟩ (fun hHeld => ?_)
                clear hK K
                try simp only [Act.put, List.setIfInBounds_toArray, List.set_cons_zero, List.set_cons_succ]
                refine wpAnyF_take (i := 29) (oi := { dst := some 102, op := Op.fieldAddr 32 (Operand.tmp 7) 2, type := 0, pos := "outright.go:67", after := #[{ on := 0, ground := Ground.phase }, { on := 1, ground := Ground.phase }, { on := 2, ground := Ground.phase }, { on := 3, ground := Ground.phase }, { on := 4, ground := Ground.phase }, { on := 5, ground := Ground.phase }, { on := 6, ground := Ground.phase }, { on := 7, ground := Ground.phase }, { on := 8, ground := Ground.phase }, { on := 9, ground := Ground.phase }, { on := 10, ground := Ground.phase }, { on := 11, ground := Ground.phase }, { on := 12, ground := Ground.phase }, { on := 13, ground := Ground.phase }, { on := 14, ground := Ground.phase }, { on := 15, ground := Ground.phase }, { on := 16, ground := Ground.phase }, { on := 17, ground := Ground.phase }, { on := 18, ground := Ground.phase }, { on := 19, ground := Ground.phase }, { on := 20, ground := Ground.phase }, { on := 21, ground := Ground.phase }, { on := 22, ground := Ground.phase }, { on := 23, ground := Ground.phase }, { on := 24, ground := Ground.phase }, { on := 25, ground := Ground.phase }, { on := 26, ground := Ground.phase }, { on := 27, ground := Ground.phase }, { on := 28, ground := Ground.phase }], guard := none }) (v := ?v51) rfl (by kernel_rfl) (by kernel_rfl) (by kernel_rfl) (by kernel_rfl) (fun _ _ _ h => h) (Or.inl ⟨by rfl, ?hy51⟩) (by assumption) ?rest51
                case hy51 => (intro w hSw; (try dsimp only at hSw); go_simp <;> with_reducible rfl)
                try simp only [Act.put, List.setIfInBounds_toArray, List.set_cons_zero, List.set_cons_succ]
                refine wpAnyF_ready (rs := [30]) (by kernel_rfl) (by simp) (AllReadyF.last (o := { dst := none, op := Op.store 30 (Operand.tmp 102) (Operand.tmp 101), type := 0, pos := "outright.go:67", after := #[{ on := 29, ground := Ground.data }, { on := 28, ground := Ground.data }, { on := 28, ground := Ground.chain }, { on := 0, ground := Ground.phase }, { on := 1, ground := Ground.phase }, { on := 2, ground := Ground.phase }, { on := 3, ground := Ground.phase }, { on := 4, ground := Ground.phase }, { on := 5, ground := Ground.phase }, { on := 6, ground := Ground.phase }, { on := 7, ground := Ground.phase }, { on := 8, ground := Ground.phase }, { on := 9, ground := Ground.phase }, { on := 10, ground := Ground.phase }, { on := 11, ground := Ground.phase }, { on := 12, ground := Ground.phase }, { on := 13, ground := Ground.phase }, { on := 14, ground := Ground.phase }, { on := 15, ground := Ground.phase }, { on := 16, ground := Ground.phase }, { on := 17, ground := Ground.phase }, { on := 18, ground := Ground.phase }, { on := 19, ground := Ground.phase }, { on := 20, ground := Ground.phase }, { on := 21, ground := Ground.phase }, { on := 22, ground := Ground.phase }, { on := 23, ground := Ground.phase }, { on := 24, ground := Ground.phase }, { on := 25, ground := Ground.phase }, { on := 26, ground := Ground.phase }, { on := 27, ground := Ground.phase }, { on := 28, ground := Ground.phase }], guard := none }) rfl (fun K hK => ?_) (AllReadyF.nil))
                go_simp
                refine hK.out _ _ trivial (fun hHeld => ?_)
                clear hK K
                try simp only [Act.put, List.setIfInBounds_toArray, List.set_cons_zero, List.set_cons_succ]
                refine wpAnyF_done (by kernel_rfl) ?_ _
                go_wp2_with fail
                go_roundw
                case rel => exact ⟨q + 1, F3, _, by omega, by omega, by go_num, h3.out, hxd, by rw [List.length_append, hxq]; rfl, hb3'.out⟩
                case measure => simp [RowKit.intOf]; omega
              · refine xstep1 ?_ _ (.tmp 97) #[9] ?_ ent_value _ ?_ _ (cV _) ?_
                · rfl
                · rfl
                · rfl
                rintro _ w2 ⟨⟨s2, rfl⟩, hb2⟩
                have hL := hL.trans (hb2.mono hL.size)
                refine hK.out _ _ (HS2.out _ hL) (fun hHeld => ?_)
                clear hK K
                try simp only [Act.put, List.setIfInBounds_toArray, List.set_cons_zero, List.set_cons_succ]
                refine wpAnyF_ready (rs := [6]) (by kernel_rfl) (by simp) (AllReadyF.cons (o := { dst := some 79, op := Op.convert 59 9 (Operand.tmp 78), type := 9, pos := "outright.go:67", after := #[{ on := 5, ground := Ground.data }], guard := none }) rfl (fun K hK => ?_) (AllReadyF.nil))
                have hG : (w2).heap[w1.heap.size]? = some (.cells #[.int .u8 (97 + (q : Int))] 5) := (hb2.block _ (lt_of_heap (theap_new w1 _))).trans (theap_new w1 _)
                have hcv := lit1_conv hG (show (97 + (q : Int)) = ((97 + q : Nat) : Int) by omega)
                go_simp
                refine hK.out _ _ hHeld (fun hHeld => ?_)
                clear hK K
                try simp only [Act.put, List.setIfInBounds_toArray, List.set_cons_zero, List.set_cons_succ]
                refine wpAnyF_take (i := 16) (oi := { dst := some 89, op := Op.binOp BinOp.add 9 (Operand.tmp 79) (Operand.tmp 88) 9, type := 9, pos := "outright.go:67", after := #[{ on := 6, ground := Ground.data }, { on := 15, ground := Ground.data }], guard := none }) (v := ?v52) rfl (by kernel_rfl) (by kernel_rfl) (by kernel_rfl) (by kernel_rfl) (fun _ _ _ h => h) (Or.inl ⟨by rfl, ?hy52⟩) (by assumption) ?rest52
                case hy52 => (intro w hSw; (try dsimp only at hSw); go_simp <;> with_reducible rfl)
                try simp only [Act.put, List.setIfInBounds_toArray, List.set_cons_zero, List.set_cons_succ]
                refine wpAnyF_take (i := 26) (oi := { dst := some 99, op := Op.build 54 #[(0, Operand.tmp 89), (1, Operand.tmp 98)], type := 54, pos := "outright.go:67", after := #[{ on := 16, ground := Ground.data }, { on := 25, ground := Ground.data }], guard := none }) (v := ?v53) rfl (by kernel_rfl) (by kernel_rfl) (by kernel_rfl) (by kernel_rfl) (fun _ _ _ h => h) (Or.inl ⟨by rfl, ?hy53⟩) (by assumption) ?rest53
                case hy53 => (intro w hSw; (try dsimp only at hSw); go_simp <;> with_reducible rfl)
                try simp only [Act.put, List.setIfInBounds_toArray, List.set_cons_zero, List.set_cons_succ]
                refine wpAnyF_ready (rs := [27]) (by kernel_rfl) (by simp) (AllReadyF.cons (o := { dst := some 100, op := Op.buildSlice 30 1 #[(0, Operand.tmp 99)], type := 30, pos := "outright.go:67", after := #[{ on := 26, ground := Ground.data }], guard := none }) rfl (fun K hK => ?_) (AllReadyF.nil))
                obtain ⟨p3, c3, w3, run3, cx3, fx3, hb3, F3, h3⟩ := (HM.out.below hL).attr hxav hxq (by omega) (Nat.le_trans hwr hL.size) (sOf [97 + q] ++ s1) s2
                have hb3' := HB.out.trans ((hL.mono hwr).trans hb3)
                obtain ⟨hg3, hga3⟩ := HC.out _ _ hb3'
                replace h3 := Hid.mkT h3
                replace hb3' := Hid.mkT hb3'
                clear hb3
                go_simp
                refine hK.out _ _ (HS2.out _ (hL.alloc hL.size _)) (fun hHeld => ?_)
                clear hK K
                try simp only [Act.put, List.setIfInBounds_toArray, List.set_cons_zero, List.set_cons_succ]
                refine wpAnyF_ready (rs := [28]) (by kernel_rfl) (by simp) (AllReadyF.cons (o := { dst := some 101, op := Op.call { callee := Callee.builtin Builtin.append, args := #[Operand.tmp 74, Operand.tmp 100], argTypes := #[30, 30] }, type := 30, pos := "outright.go:67", after := #[{ on := 1, ground := Ground.data }, { on := 27, ground := Ground.data }, { on := 25, ground := Ground.chain }], guard := none }) rfl (fun K hK => ?_) (AllReadyF.nil))
                refine step_append_ex ?_ (.tmp 74) (.tmp 100) _ _ ?_ _ _ ?_ ?_ (fun a b => a = _ ∧ b = w3) ⟨_, w3, run3, rfl, rfl⟩ ?_
                · rfl
                · rfl
                · rfl
                · rfl
                rintro _ _ ⟨rfl, rfl⟩
                refine hK.out _ _ ⟨hg3, hga3, cx3⟩ (fun hHeld => ?_)
                clear hK K
                try simp only [Act.put, List.setIfInBounds_toArray, List.set_cons_zero, List.set_cons_succ]
                refine wpAnyF_take (i := 29) (oi := { dst := some 102, op := Op.fieldAddr 32 (Operand.tmp 7) 2, type := 0, pos := "outright.go:67", after := #[{ on := 0, ground := Ground.phase }, { on := 1, ground := Ground.phase }, { on := 2, ground := Ground.phase }, { on := 3, ground := Ground.phase }, { on := 4, ground := Ground.phase }, { on := 5, ground := Ground.phase }, { on := 6, ground := Ground.phase }, { on := 7, ground := Ground.phase }, { on := 8, ground := Ground.phase }, { on := 9, ground := Ground.phase }, { on := 10, ground := Ground.phase }, { on := 11, ground := Ground.phase }, { on := 12, ground := Ground.phase }, { on := 13, ground := Ground.phase }, { on := 14, ground := Ground.phase }, { on := 15, ground := Ground.phase }, { on := 16, ground := Ground.phase }, { on := 17, ground := Ground.phase }, { on := 18, ground := Ground.phase }, { on := 19, ground := Ground.phase }, { on := 20, ground := Ground.phase }, { on := 21, ground := Ground.phase }, { on := 22, ground := Ground.phase }, { on := 23, ground := Ground.phase }, { on := 24, ground := Ground.phase }, { on := 25, ground := Ground.phase }, { on := 26, ground := Ground.phase }, { on := 27, ground := Ground.phase }, { on := 28, ground := Ground.phase }], guard := none }) (v := ?v54) rfl (by kernel_rfl) (by kernel_rfl) (by kernel_rfl) (by kernel_rfl) (fun _ _ _ h => h) (Or.inl ⟨by rfl, ?hy54⟩) (by assumption) ?rest54
                case hy54 => (intro w hSw; (try dsimp only at hSw); go_simp <;> with_reducible rfl)
                try simp only [Act.put, List.setIfInBounds_toArray, List.set_cons_zero, List.set_cons_succ]
                refine wpAnyF_ready (rs := [30]) (by kernel_rfl) (by simp) (AllReadyF.last (o := { dst := none, op := Op.store 30 (Operand.tmp 102) (Operand.tmp 101), type := 0, pos := "outright.go:67", after := #[{ on := 29, ground := Ground.data }, { on := 28, ground := Ground.data }, { on := 28, ground := Ground.chain }, { on := 0, ground := Ground.phase }, { on := 1, ground := Ground.phase }, { on := 2, ground := Ground.phase }, { on := 3, ground := Ground.phase }, { on := 4, ground := Ground.phase }, { on := 5, ground := Ground.phase }, { on := 6, ground := Ground.phase }, { on := 7, ground := Ground.phase }, { on := 8, ground := Ground.phase }, { on := 9, ground := Ground.phase }, { on := 10, ground := Ground.phase }, { on := 11, ground := Ground.phase }, { on := 12, ground := Ground.phase }, { on := 13, ground := Ground.phase }, { on := 14, ground := Ground.phase }, { on := 15, ground := Ground.phase }, { on := 16, ground := Ground.phase }, { on := 17, ground := Ground.phase }, { on := 18, ground := Ground.phase }, { on := 19, ground := Ground.phase }, { on := 20, ground := Ground.phase }, { on := 21, ground := Ground.phase }, { on := 22, ground := Ground.phase }, { on := 23, ground := Ground.phase }, { on := 24, ground := Ground.phase }, { on := 25, ground := Ground.phase }, { on := 26, ground := Ground.phase }, { on := 27, ground := Ground.phase }, { on := 28, ground := Ground.phase }], guard := none }) rfl (fun K hK => ?_) (AllReadyF.nil))
                go_simp
                refine hK.out _ _ trivial (fun hHeld => ?_)
                clear hK K
                try simp only [Act.put, List.setIfInBounds_toArray, List.set_cons_zero, List.set_cons_succ]
                refine wpAnyF_done (by kernel_rfl) ?_ _
                go_wp2_with fail
                go_roundw
                case rel => exact ⟨q + 1, F3, _, by omega, by omega, by go_num, h3.out, hxd, by rw [List.length_append, hxq]; rfl, hb3'.out⟩
                case measure => simp [RowKit.intOf]; omega
            · refine xstep1 ?_ _ (.tmp 97) #[9] ?_ ent_value _ ?_ _ (cV _) ?_
              · rfl
              · rfl
              · rfl
              rintro _ w2 ⟨⟨s2, rfl⟩, hb2⟩
              have hL := hL.trans (hb2.mono hL.size)
              refine hK.out _ _ (HS2.out _ hL) (fun hHeld => ?_)
              clear hK K
              try simp only [Act.put, List.setIfInBounds_toArray, List.set_cons_zero, List.set_cons_succ]
              refine wpAnyF_ready (rs := [5]) (by kernel_rfl) (by simp) (AllReadyF.cons (o := { dst := some 78, op := Op.buildSlice 59 1 #[(0, Operand.tmp 77)], type := 59, pos := "outright.go:67", after := #[{ on := 4, ground := Ground.data }], guard := none }) rfl (fun K hK => ?_) (AllReadyF.nil))
              have hL := hL.alloc hL.size (.cells #[.int .u8 (97 + (q : Int))] 5)
              go_simp
              refine hK.out _ _ (HS2.out _ hL) (fun hHeld => ?_)
              clear hK K
              try simp only [Act.put, List.setIfInBounds_toArray, List.set_cons_zero, List.set_cons_succ]
              refine wpAnyF_ready (rs := [6]) (by kernel_rfl) (by simp) (AllReadyF.cons (o := { dst := some 79, op := Op.convert 59 9 (Operand.tmp 78), type := 9, pos := "outright.go:67", after := #[{ on := 5, ground := Ground.data }], guard := none }) rfl (fun K hK => ?_) (AllReadyF.nil))
              have hG : ((w2.alloc (.cells #[.int .u8 (97 + (q : Int))] 5))).heap[w2.heap.size]? = some (.cells #[.int .u8 (97 + (q : Int))] 5) := theap_new w2 _
              have hcv := lit1_conv hG (show (97 + (q : Int)) = ((97 + q : Nat) : Int) by omega)
              go_simp
              refine hK.out _ _ hHeld (fun hHeld => ?_)
              clear hK K
              try simp only [Act.put, List.setIfInBounds_toArray, List.set_cons_zero, List.set_cons_succ]
              refine wpAnyF_take (i := 16) (oi := { dst := some 89, op := Op.binOp BinOp.add 9 (Operand.tmp 79) (Operand.tmp 88) 9, type := 9, pos := "outright.go:67", after := #[{ on := 6, ground := Ground.data }, { on := 15, ground := Ground.data }], guard := none }) (v := ?v55) rfl (by kernel_rfl) (by kernel_rfl) (by kernel_rfl) (by kernel_rfl) (fun _ _ _ h => h) (Or.inl ⟨by rfl, ?hy55⟩) (by assumption) ?rest55
              case hy55 => (intro w hSw; (try dsimp only at hSw); go_simp <;> with_reducible rfl)
              try simp only [Act.put, List.setIfInBounds_toArray, List.set_cons_zero, List.set_cons_succ]
              refine wpAnyF_take (i := 26) (oi := { dst := some 99, op := Op.build 54 #[(0, Operand.tmp 89), (1, Operand.tmp 98)], type := 54, pos := "outright.go:67", after := #[{ on := 16, ground := Ground.data }, { on := 25, ground := Ground.data }], guard := none }) (v := ?v56) rfl (by kernel_rfl) (by kernel_rfl) (by kernel_rfl) (by kernel_rfl) (fun _ _ _ h => h) (Or.inl ⟨by rfl, ?hy56⟩) (by assumption) ?rest56
              case hy56 => (intro w hSw; (try dsimp only at hSw); go_simp <;> with_reducible rfl)
              try simp only [Act.put, List.setIfInBounds_toArray, List.set_cons_zero, List.set_cons_succ]
              refine wpAnyF_ready (rs := [27]) (by kernel_rfl) (by simp) (AllReadyF.cons (o := { dst := some 100, op := Op.buildSlice 30 1 #[(0, Operand.tmp 99)], type := 30, pos := "outright.go:67", after := #[{ on := 26, ground := Ground.data }], guard := none }) rfl (fun K hK => ?_) (AllReadyF.nil))
              obtain ⟨p3, c3, w3, run3, cx3, fx3, hb3, F3, h3⟩ := (HM.out.below hL).attr hxav hxq (by omega) (Nat.le_trans hwr hL.size) (sOf [97 + q] ++ s1) s2
              have hb3' := HB.out.trans ((hL.mono hwr).trans hb3)
              obtain ⟨hg3, hga3⟩ := HC.out _ _ hb3'
              replace h3 := Hid.mkT h3
              replace hb3' := Hid.mkT hb3'
              clear hb3
              rw [World.size_alloc] at run3
              go_simp
              refine hK.out _ _ (HS2.out _ (hL.alloc hL.size _)) (fun hHeld => ?_)
              clear hK K
              try simp only [Act.put, List.setIfInBounds_toArray, List.set_cons_zero, List.set_cons_succ]
              refine wpAnyF_ready (rs := [28]) (by kernel_rfl) (by simp) (AllReadyF.cons (o := { dst := some 101, op := Op.call { callee := Callee.builtin Builtin.append, args := #[Operand.tmp 74, Operand.tmp 100], argTypes := #[30, 30] }, type := 30, pos := "outright.go:67", after := #[{ on := 1, ground := Ground.data }, { on := 27, ground := Ground.data }, { on := 25, ground := Ground.chain }], guard := none }) rfl (fun K hK => ?_) (AllReadyF.nil))
              refine step_append_ex ?_ (.tmp 74) (.tmp 100) _ _ ?_ _ _ ?_ ?_ (fun a b => a = _ ∧ b = w3) ⟨_, w3, run3, rfl, rfl⟩ ?_
              · rfl
              · rfl
              · rfl
              · rfl
              rintro _ _ ⟨rfl, rfl⟩
              refine hK.out _ _ ⟨hg3, hga3, cx3⟩ (fun hHeld => ?_)
              clear hK K
              try simp only [Act.put, List.setIfInBounds_toArray, List.set_cons_zero, List.set_cons_succ]
              refine wpAnyF_take (i := 29) (oi := { dst := some 102, op := Op.fieldAddr 32 (Operand.tmp 7) 2, type := 0, pos := "outright.go:67", after := #[{ on := 0, ground := Ground.phase }, { on := 1, ground := Ground.phase }, { on := 2, ground := Ground.phase }, { on := 3, ground := Ground.phase }, { on := 4, ground := Ground.phase }, { on := 5, ground := Ground.phase }, { on := 6, ground := Ground.phase }, { on := 7, ground := Ground.phase }, { on := 8, ground := Ground.phase }, { on := 9, ground := Ground.phase }, { on := 10, ground := Ground.phase }, { on := 11, ground := Ground.phase }, { on := 12, ground := Ground.phase }, { on := 13, ground := Ground.phase }, { on := 14, ground := Ground.phase }, { on := 15, ground := Ground.phase }, { on := 16, ground := Ground.phase }, { on := 17, ground := Ground.phase }, { on := 18, ground := Ground.phase }, { on := 19, ground := Ground.phase }, { on := 20, ground := Ground.phase }, { on := 21, ground := Ground.phase }, { on := 22, ground := Ground.phase }, { on := 23, ground := Ground.phase }, { on := 24, ground := Ground.phase }, { on := 25, ground := Ground.phase }, { on := 26, ground := Ground.phase }, { on := 27, ground := Ground.phase }, { on := 28, ground := Ground.phase }], guard := none }) (v := ?v57) rfl (by kernel_rfl) (by kernel_rfl) (by kernel_rfl) (by kernel_rfl) (fun _ _ _ h => h) (Or.inl ⟨by rfl, ?hy57⟩) (by assumption) ?rest57
              case hy57 => (intro w hSw; (try dsimp only at hSw); go_simp <;> with_reducible rfl)
              try simp only [Act.put, List.setIfInBounds_toArray, List.set_cons_zero, List.set_cons_succ]
              refine wpAnyF_ready (rs := [30]) (by kernel_rfl) (by simp) (AllReadyF.last (o := { dst := none, op := Op.store 30 (Operand.tmp 102) (Operand.tmp 101), type := 0, pos := "outright.go:67", after := #[{ on := 29, ground := Ground.data }, { on := 28, ground := Ground.data }, { on := 28, ground := Ground.chain }, { on := 0, ground := Ground.phase }, { on := 1, ground := Ground.phase }, { on := 2, ground := Ground.phase }, { on := 3, ground := Ground.phase }, { on := 4, ground := Ground.phase }, { on := 5, ground := Ground.phase }, { on := 6, ground := Ground.phase }, { on := 7, ground := Ground.phase }, { on := 8, ground := Ground.phase }, { on := 9, ground := Ground.phase }, { on := 10, ground := Ground.phase }, { on := 11, ground := Ground.phase }, { on := 12, ground := Ground.phase }, { on := 13, ground := Ground.phase }, { on := 14, ground := Ground.phase }, { on := 15, ground := Ground.phase }, { on := 16, ground := Ground.phase }, { on := 17, ground := Ground.phase }, { on := 18, ground := Ground.phase }, { on := 19, ground := Ground.phase }, { on := 20, ground := Ground.phase }, { on := 21, ground := Ground.phase }, { on := 22, ground := Ground.phase }, { on := 23, ground := Ground.phase }, { on := 24, ground := Ground.phase }, { on := 25, ground := Ground.phase }, { on := 26, ground := Ground.phase }, { on := 27, ground := Ground.phase }, { on := 28, ground := Ground.phase }], guard := none }) rfl (fun K hK => ?_) (AllReadyF.nil))
              go_simp
              refine hK.out _ _ trivial (fun hHeld => ?_)
              clear hK K
              try simp only [Act.put, List.setIfInBounds_toArray, List.set_cons_zero, List.set_cons_succ]
              refine wpAnyF_done (by kernel_rfl) ?_ _
              go_wp2_with fail
              go_roundw
              case rel => exact ⟨q + 1, F3, _, by omega, by omega, by go_num, h3.out, hxd, by rw [List.length_append, hxq]; rfl, hb3'.out⟩
              case measure => simp [RowKit.intOf]; omega
        · have hd := HI.out.d
          obtain ⟨p3, c3, w3, run3, hb3, F3, h3⟩ := hX.done HI.out.l (by omega) hwr hd.dp hd.d6 hy (by omega) (by rw [HyD.out]; omega) (by omega)
          have hI3 : MI w w3 (.slice p3 (k + 1 + 1) c3) (k + 1) F3 (ex ++ [x]) := ⟨h3, by rw [List.length_append, HI.out.l]; rfl, hB.trans hb3⟩
          have HI3 := Hid.mkT hI3
          obtain ⟨px, cx, hxav⟩ : ∃ px cx, x.av = .slice px q cx := by
            have := hX.pf.own (1 + ex.length)
            rw [hX.fx] at this
            obtain ⟨p, c, e'⟩ := own_sl this
            exact ⟨p, c, by rw [← hxq]; exact e'⟩
          rw [hxav] at run3
          have x0 : wr.cell? ⟨X, 0, none⟩ = some (.int .i64 x.e.d) := by simp only [World.cell?, hX.b]; rfl
          have x1 : wr.cell? ⟨X, 1, none⟩ = some (.string x.e.nm) := by simp only [World.cell?, hX.b]; rfl
          have x2 : wr.cell? ⟨X, 2, none⟩ = some (.slice px q cx) := by simp only [World.cell?, hX.b, ← hxav]; rfl
          have x3 : wr.cell? ⟨X, 3, none⟩ = some (.string x.e.tx) := by simp only [World.cell?, hX.b]; rfl
          have x4 : wr.cell? ⟨X, 4, none⟩ = some (.int .i64 x.e.p) := by simp only [World.cell?, hX.b]; rfl
          clear hX hxd hxav hI3 h3 hb3 HyD hd HI hxq hB
          by_cases hq1 : q < e.ats.length
          · have u1 : (q : Int) < e.ats.length := by omega
            have u2 : ¬ (q : Int) < 24 := by omega
            go_wp2_with (at_builtin; refine (wpList_append_ex (by rfl) _ _ _ _ (by rfl) _ _ (by rfl) (by rfl) (fun a b => a = _ ∧ b = w3) ⟨_, w3, run3, rfl, rfl⟩ ?_); rintro _ _ ⟨rfl, rfl⟩)
            go_roundw
            case rel => exact ⟨k + 1, F3, _, by omega, by omega, by go_num, HI3.out⟩
            case measure => simp [RowKit.intOf]; omega
          · have u1 : ¬ (q : Int) < e.ats.length := by omega
            go_wp2_with (at_builtin; refine (wpList_append_ex (by rfl) _ _ _ _ (by rfl) _ _ (by rfl) (by rfl) (fun a b => a = _ ∧ b = w3) ⟨_, w3, run3, rfl, rfl⟩ ?_); rintro _ _ ⟨rfl, rfl⟩)
            go_roundw
            case rel => exact ⟨k + 1, F3, _, by omega, by omega, by go_num, HI3.out⟩
            case measure => simp [RowKit.intOf]; omega
    · by_cases hk1 : k < sd.length
      · have u1 : (k : Int) < sd.length := by omega
        have u2 : ¬ (k : Int) < 60 := by omega
        go_wp2_with fail
        go_ret
        exact ⟨_, rfl, k, hk60, f, ex, hI⟩
      · have u1 : ¬ (k : Int) < sd.length := by omega
        go_wp2_with fail
        go_ret
        exact ⟨_, rfl, k, hk60, f, ex, hI⟩
end Go.Proofs.YtchfphakhmifmabGreatDoor

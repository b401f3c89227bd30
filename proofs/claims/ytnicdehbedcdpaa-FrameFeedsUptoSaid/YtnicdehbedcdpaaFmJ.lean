/- same; keep; holds. -/
import Derived.Test.YtnicdehbedcdpaaFmI
import Derived.Deep.AppendSrc
namespace Go.Proofs.Ytnicdehbedcdpaa
open Go.ChangeShapes Go.WideShapes Go.ChangeAt Go.RowKit

/-- One more behind a list, which stays as it was besides. -/
theorem p_ap2 {W : World} {base : Nat} {v : Value} {al : List Pcl} {p : Pcl} (h : POwn W base v al) (hl : al.length + 1 ≤ 4398046511104) (hb0 : base ≤ W.heap.size) :
    ∃ v' w', (∀ ty, (Builtin.append_ #[22, 22] ty #[v, .slice (some ⟨W.heap.size, 0, none⟩) 1 1]).run Try.prog (W.alloc (.cells #[.int .i64 p.t, .string p.b] 36)) = .ok v' w') ∧
      (POwn w' base v al ∧ POwn w' base v' (al ++ [p]) ∧ Below base W w' ∧ (∀ k, k < W.heap.size → v.ownBlock ≠ some k → w'.heap[k]? = W.heap[k]?) ∧ ∀ k, v'.ownBlock = some k → v.ownBlock = some k ∨ W.heap.size ≤ k) := by
  have hB := bel1 W (.cells #[.int .i64 p.t, .string p.b] 36)
  have hO : POwn (W.alloc (.cells #[.int .i64 p.t, .string p.b] 36)) base v al := ownSame h fun k hk => hB.block k (ownLt h hk).2
  obtain ⟨v', w', hrun, hown, q1, q2, q3⟩ := p_ap (p := p) h hl hb0
  refine ⟨v', w', hrun, ?_, hown, q1, q2, q3⟩
  rcases h.2 with ⟨rfl, h0⟩ | ⟨g, cap, cur, e1, hb, hg, hn, hm, hs', hx⟩
  · exact ⟨h.1, .inl ⟨rfl, h0⟩⟩
  · subst e1
    obtain ⟨i0, hi', hz', hs2, hby'⟩ := infoP
    by_cases hroom : al.length + 1 ≤ cap
    · have hfr : ∃ cur', w'.heap[g]? = some (.cells cur' 36 (0, 0)) ∧ cur'.size = cap * 2 ∧ cur'.toList.take ((al.length + 1) * 2) = pcCells (al ++ [p]) ∧ v' = .slice (some ⟨g, 0, none⟩) (al.length + 1) cap := by
        have hr2 := run_append_room_src (P := Try.prog) (W.alloc (.cells #[.int .i64 p.t, .string p.b] 36)) 22 22 0 36 i0 Try.underlying22 hi' g 0 al.length cap (.slice (some ⟨W.heap.size, 0, none⟩) 1 1) 1 [.int .i64 p.t, .string p.b] (by
          rw [hs2]
          exact Src.ofSlice (P := Try.prog) (W.alloc (.cells #[.int .i64 p.t, .string p.b] 36)) Try.underlying22 ⟨W.heap.size, 0, none⟩ 1 1 [.int .i64 p.t, .string p.b] rfl (World.news_of_block (heap_nw W _)) (fun u hu => by simp only [List.mem_cons, List.not_mem_nil, or_false] at hu; rcases hu with rfl | rfl <;> rfl)) hroom
          (fun j hj => by
            rw [hs2]
            have hc := cellA ((hB.block g (Array.getElem?_eq_some_iff.1 hg).1).trans hg) (0 + al.length * 2 + j)
            simp at hj
            rw [hc, Array.getElem?_eq_getElem (by omega)]
            rfl)
          (fun j hj => by
            simp only [World.frozen?, (hB.block g (Array.getElem?_eq_some_iff.1 hg).1).trans hg]
            simp)
        have hr1 := hrun 0
        rw [hr2] at hr1
        injection hr1 with e1 e2
        rcases hown.2 with ⟨e0, h0⟩ | ⟨g2, cap2, cur2, e3, _, hg2, _, _, hs3, hx3⟩
        · simp at h0
        · rw [List.length_append] at e3
          rw [← e1] at e3
          injection e3 with e4 e5 e6
          injection e4 with e4
          injection e4 with e4
          subst e4 e6
          rw [List.length_append] at hx3
          exact ⟨cur2, hg2, hs3, hx3, e1.symm⟩
      obtain ⟨cur', g1, g2, g3, _⟩ := hfr
      refine ⟨h.1, .inr ⟨g, cap, cur', rfl, hb, g1, hn, hm, g2, ?_⟩⟩
      have : cur'.toList.take (al.length * 2) = (cur'.toList.take ((al.length + 1) * 2)).take (al.length * 2) := by rw [List.take_take]; congr 1; omega
      rw [this, g3, pcCells_append, List.take_left' (pcCells_length al)]
    · have holds : ∀ j u, (pcCells al)[j]? = some u → (W.alloc (.cells #[.int .i64 p.t, .string p.b] 36)).cell? ((⟨g, 0, none⟩ : Addr).add j) = some u := hO.cells (g := g) rfl
      have hr2 := run_append_grow (P := Try.prog) (W.alloc (.cells #[.int .i64 p.t, .string p.b] 36)) 22 0 36 i0 _ Try.underlying22 hi' hz' ⟨g, 0, none⟩ al.length cap (pcCells al) (by rw [hs2]; exact h.1) holds ⟨W.heap.size, 0, none⟩ 1 1 [.int .i64 p.t, .string p.b] (by rw [hs2]; rfl) (World.news_of_block (heap_nw W _)) (by omega) (by omega) (growslice_fits (by omega) (by rw [hby']; omega))
      have hr1 := hrun 0
      rw [hr2] at hr1
      injection hr1 with e1 e2
      refine ownSame h fun k hk => ?_
      rw [← e2]
      have hk2 := (ownLt h hk).2
      exact (heap_alloc_old _ _ (by show k < (W.alloc _).heap.size; rw [World.size_alloc]; omega)).trans (hB.block k hk2)
theorem pcCells_set : ∀ (l : List Pcl) (j : Nat) (p : Pcl), j < l.length → (pcCells (l.set j p)) = ((pcCells l).set (j * 2) (.int .i64 p.t)).set (j * 2 + 1) (.string p.b)
  | [], _, _, h => by simp at h
  | x :: r, 0, p, _ => by simp [pcCells, pcC]
  | x :: r, j + 1, p, h => by
    have ih := pcCells_set r j p (by simpa using h)
    unfold pcCells at ih ⊢
    simp only [List.set_cons_succ, List.flatMap_cons, ih]
    simp [pcC, Nat.add_mul]
theorem num_any (e : Int) (w : World) : Calls Try.prog 13 #[.int .i64 e] w fun r w' => r = .returned (.int .i64 e) ∧ w' = w := by
  go_enter Try.func13, Try.ntmps13
  go_wp2
  go_ret
  exact ⟨rfl, rfl⟩
theorem drewN_add (w : World) (a b : Nat) : (w.drewN a).drewN b = w.drewN (a + b) := by
  simp
set_option maxHeartbeats 1000000 in
theorem same_self (l : List Pcl) (pa pb : Option Addr) (ca cb H : Nat) (w : World) (ha : PRow w pa H l) (hb : PRow w pb H l) (hl : l.length ≤ 9223372036854775000) :
    Calls Try.prog 15 #[.slice pa l.length ca, .slice pb l.length cb] w fun r w' => r = .returned (.bool true) ∧ Below w.heap.size w w' := by
  generalize hn : l.length = n at hl ⊢
  go_enter Try.func15, Try.ntmps15
  go_wp2_with fail
  go_loopw [5] (fun i wr => ∃ (j d : Nat), j ≤ n ∧ i = .int .i64 j ∧ Hid (wr = w.drewN d)) (fun i _ => n - (RowKit.intOf i).toNat)
  case atStart => exact ⟨0, 0, Nat.zero_le _, by go_num, rfl⟩
  case round =>
    obtain ⟨j, d, hj, rfl, hd⟩ := hrel
    by_cases hlt : j < n
    · have x1 : l[j]? = some l[j] := List.getElem?_eq_getElem (by omega)
      obtain ⟨g, o, rfl, _, q0, q1⟩ := ha.c j _ x1
      obtain ⟨g2, o2, rfl, _, q2, q3⟩ := hb.c j _ x1
      have hcd : ∀ a, wr.cell? a = w.cell? a := fun a => by rw [show wr = w.drewN d from hd]; rfl
      have r0 := (hcd _).trans q0
      have r1 := (hcd _).trans q1
      have r2 := (hcd _).trans q2
      have r3 := (hcd _).trans q3
      have hlti : (j : Int) < n := by omega
      generalize l[j] = p at *
      clear q0 q1 q2 q3 ha hb x1 hcd
      go_wp2_with fail
      go_quiet (fail)
      go_wp2_with fail
      go_roundw
      case rel => exact ⟨j + 1, d + nq, by omega, by go_num, by rw [show wr = w.drewN d from hd]; exact drewN_add _ _ _⟩
      case measure => simp [RowKit.intOf]; omega
    · obtain rfl : j = n := by omega
      have hlti : ¬ (j : Int) < j := by omega
      go_wp2_with fail
      go_ret
      refine ⟨rfl, ?_⟩
      rw [show wr = w.drewN d from hd]
      exact below_drewN (Below.refl _ _) _
/-- What keep writes. -/
def mkP (m : Int) : Pcl := ⟨-m - 1, ⟨#[]⟩⟩
/-- Three cells of one block. -/
theorem set3 {w : World} {g : Nat} {a b c x y z : Value} {t : TypeId} (h : w.heap[g]? = some (.cells #[x, y, z] t (0, 0))) : (((w.setCell ⟨g, 0, none⟩ a).setCell ⟨g, 1, none⟩ b).setCell ⟨g, 2, none⟩ c).heap[g]? = some (.cells #[a, b, c] t (0, 0)) ∧
    (∀ k, k ≠ g → (((w.setCell ⟨g, 0, none⟩ a).setCell ⟨g, 1, none⟩ b).setCell ⟨g, 2, none⟩ c).heap[k]? = w.heap[k]?) ∧ (((w.setCell ⟨g, 0, none⟩ a).setCell ⟨g, 1, none⟩ b).setCell ⟨g, 2, none⟩ c).heap.size = w.heap.size ∧ (((w.setCell ⟨g, 0, none⟩ a).setCell ⟨g, 1, none⟩ b).setCell ⟨g, 2, none⟩ c).os = w.os ∧ (((w.setCell ⟨g, 0, none⟩ a).setCell ⟨g, 1, none⟩ b).setCell ⟨g, 2, none⟩ c).tape = w.tape ∧ (((w.setCell ⟨g, 0, none⟩ a).setCell ⟨g, 1, none⟩ b).setCell ⟨g, 2, none⟩ c).output = w.output := by
  have one : ∀ (W : World) (o : Nat) (u : Value) (cs : Array Value), W.heap[g]? = some (.cells cs t (0, 0)) → (W.setCell ⟨g, o, none⟩ u).heap[g]? = some (.cells (cs.setIfInBounds o u) t (0, 0)) := fun W o u cs hg => by
    have e : (W.setCell ⟨g, o, none⟩ u).heap = W.heap.modify g (fun x => match x with
      | .cells cs t f => .cells (cs.setIfInBounds o u) t f
      | x => x) := rfl
    rw [e, Array.getElem?_modify, if_pos rfl, hg]
    rfl
  refine ⟨(one _ 2 c _ (one _ 1 b _ (one _ 0 a _ h))).trans rfl, fun k hk => ?_, by simp [World.setCell], rfl, rfl, rfl⟩
  exact (Below.heap_setCell _ _ _ _ hk).trans ((Below.heap_setCell _ _ _ _ hk).trans (Below.heap_setCell _ _ _ _ hk))
/-- What keep answers: both rows bear the mark. -/
def KeepP (w : World) (base : Nat) (v : Value) (n : Nat) (m : Int) (e : Ending) (w' : World) : Prop :=
  ∃ pg cg, e = .returned (.agg #[v, .slice pg (n + 1) cg, .int .i64 m]) ∧ POwn w' base v (List.replicate n (mkP m)) ∧ POwn w' base (.slice pg (n + 1) cg) (List.replicate (n + 1) (mkP m)) ∧ Below base w w' ∧
    (∀ k, k < w.heap.size → v.ownBlock ≠ some k → w'.heap[k]? = w.heap[k]?) ∧ ∀ k, (Value.slice pg (n + 1) cg).ownBlock = some k → v.ownBlock = some k ∨ w.heap.size ≤ k
set_option maxHeartbeats 2000000 in
theorem keep_any (l : List Pcl) (v : Value) (m : Int) (base : Nat) (w : World) (hO : POwn w base v l) (hb : base ≤ w.heap.size) (hl : l.length + 1 ≤ 4398046511104) (hm : 0 ≤ m ∧ m ≤ 9223372036854775000) :
    Calls Try.prog 17 #[v, .int .i64 m] w (KeepP w base v l.length m) := by
  obtain ⟨pp, cp, rfl, _⟩ := hO.shape
  have hvW : (Value.slice pp l.length cp).ownBlock ≠ some w.heap.size := fun e => by have := (ownLt hO e).2; omega
  generalize hn : l.length = n at hl hvW ⊢
  have s1 : IntKind.i64.wrap (-m) = -m := by rw [IntKind.wrap_i64]; omega
  have s2 : IntKind.i64.wrap (-m - 1) = -m - 1 := by rw [IntKind.wrap_i64]; omega
  have hb0 := bel1 w (.cells #[.slice none 0 0, .slice none 0 0, .int .i64 0] 43)
  go_enter Try.func17, Try.ntmps17
  go_wp2_with fail
  go_loopw [5] (fun i wr => ∃ j : Nat, j ≤ n ∧ i = .int .i64 (j : Int) ∧ POwn wr base (.slice pp n cp) (List.replicate j (mkP m) ++ l.drop j) ∧ wr.heap[w.heap.size]? = some (.cells #[.slice none 0 0, .slice none 0 0, .int .i64 0] 43 (0, 0)) ∧ wr.os = w.os ∧ wr.tape = w.tape ∧ wr.output = w.output ∧ wr.heap.size = w.heap.size + 1 ∧ ∀ k, k < w.heap.size → (Value.slice pp n cp).ownBlock ≠ some k → wr.heap[k]? = w.heap[k]?) (fun i _ => n - (intOf i).toNat)
  case atStart =>
    refine ⟨0, Nat.zero_le _, rfl, ?_, heap_nw w _, hb0.os, hb0.tape, hb0.output, by rw [World.size_alloc], fun k hk _ => hb0.block k hk⟩
    have := ownSame (W' := w.alloc (.cells #[.slice none 0 0, .slice none 0 0, .int .i64 0] 43)) hO fun k hk => hb0.block k (ownLt hO hk).2
    rw [hn] at this
    rw [List.drop_zero, List.replicate_zero, List.nil_append, POwn, hn]
    exact this
  case round =>
    obtain ⟨j, hj, rfl, hP, hW, q1, q2, q3, q4, q5⟩ := hrel
    by_cases hlt : j < n
    · have hlti : (j : Int) < (n : Int) := by omega
      have hlen : (List.replicate j (mkP m) ++ l.drop j).length = n := by simp [hn]; omega
      have hP1 := hP
      rw [POwn, hlen] at hP1
      obtain ⟨g, cap, e⟩ := own_shape hP1 (by omega)
      cases e
      have hl1 : (pcCells (List.replicate j (mkP m) ++ l.drop j)).length = n * 2 := by rw [pcCells_length, hlen]
      obtain ⟨u0, z0, hg1, hg2⟩ := own_get hP1 (o := j * 2) (List.getElem?_eq_getElem (by omega))
      obtain ⟨u1, z1, _, _⟩ := own_get hP1 (o := j * 2 + 1) (List.getElem?_eq_getElem (by omega))
      have hgl : g < w.heap.size := (ownLt hO (k := g) rfl).2
      have hP2 := own_put (own_put hP1 (j * 2) (.int .i64 (-m - 1))) (j * 2 + 1) (.string ⟨#[]⟩)
      have hset : List.replicate (j + 1) (mkP m) ++ l.drop (j + 1) = (List.replicate j (mkP m) ++ l.drop j).set j (mkP m) := by
        rw [List.set_append_right _ _ (by simp), List.length_replicate, Nat.sub_self, List.replicate_succ', List.append_assoc]
        congr 1
        have : l.drop j = l[j] :: l.drop (j + 1) := List.drop_eq_getElem_cons (by omega)
        rw [this]
        rfl
      clear hO hP
      go_wp2_with fail
      go_roundw
      case rel =>
        refine ⟨j + 1, by omega, by go_num, ?_, ?_, q1, q2, q3, by simpa [World.setCell] using q4, fun k hk hne => ?_⟩
        · rw [hset, POwn, List.length_set, hlen, pcCells_set _ _ _ (by omega)]
          exact hP2
        · exact (Below.heap_setCell _ _ _ _ (show w.heap.size ≠ g by omega)).trans ((Below.heap_setCell _ _ _ _ (show w.heap.size ≠ g by omega)).trans hW)
        · have : k ≠ g := fun e => hne (by rw [e]; rfl)
          exact (Below.heap_setCell _ _ _ _ this).trans ((Below.heap_setCell _ _ _ _ this).trans (q5 k hk hne))
      case measure => simp [intOf]; omega
    · obtain rfl : j = n := by omega
      have hlti : ¬ (j : Int) < (j : Int) := by omega
      rw [List.drop_eq_nil_of_le (by omega), List.append_nil] at hP
      have hap := p_ap2 (p := mkP m) hP (by simpa using hl) (by omega)
      rw [q4] at hap
      clear hn
      go_wp2_with (at_builtin; go_must (refine (wpList_append_ex (by rfl) _ _ _ _ (by rfl) _ _ (by rfl) (by rfl) _ hap ?_)); rintro v' w' ⟨hL, hG, hB', hk', hl'⟩; rw [← List.replicate_succ'] at hG; obtain ⟨pg, cg, rfl, _⟩ := hG.shape; have hW' := (hk' w.heap.size (by omega) hvW).trans hW; have z0 := cellA hW' 0; have z1 := cellA hW' 1; have z2 := cellA hW' 2; have zf := frozA hW')
      rw [List.length_replicate] at hG hl'
      obtain ⟨f1, f2, f3, f4, f5, f6⟩ := set3 (a := .slice pp j cp) (b := .slice pg (j + 1) cg) (c := .int .i64 m) hW'
      generalize ((w'.setCell ⟨w.heap.size, 0, none⟩ (.slice pp j cp)).setCell ⟨w.heap.size, 1, none⟩ (.slice pg (j + 1) cg)).setCell ⟨w.heap.size, 2, none⟩ (.int .i64 m) = w3 at *
      have y0 := cellA f1 0
      have y1 := cellA f1 1
      have y2 := cellA f1 2
      have hzs := hB'.size
      have hg2 : ∀ k, (Value.slice pg (j + 1) cg).ownBlock = some k → (Value.slice pp j cp).ownBlock = some k ∨ w.heap.size < k := fun k hk => by
        rcases hl' k hk with e | e
        · exact .inl e
        · exact .inr (by omega)
      refine bodyPost_ret (v := .agg #[.slice pp j cp, .slice pg (j + 1) cg, .int .i64 m]) (by simp [results, Try.results17, go_sem, y0, y1, y2]) rfl
        ⟨pg, cg, rfl, ownSame hL fun k hk => f2 k (fun e => hvW (e ▸ hk)), ownSame hG fun k hk => f2 k (fun e => ?_), ⟨?_, ?_, ?_, by omega, fun k hk => ?_⟩, fun k hk hne => ?_, fun k hk => ?_⟩
      · subst e
        rcases hg2 _ hk with e | e
        · exact hvW e
        · omega
      · exact f4.trans (hB'.os.trans q1)
      · exact f5.trans (hB'.tape.trans q2)
      · exact f6.trans (hB'.output.trans q3)
      · exact (f2 k (by omega)).trans ((hB'.block k hk).trans (q5 k (by omega) (fun e => by have := (ownLt hL e).1; omega)))
      · exact (f2 k (by omega)).trans ((hk' k (by omega) hne).trans (q5 k hk hne))
      · rcases hl' k hk with e | e
        · exact .inl e
        · exact .inr (by omega)
end Go.Proofs.Ytnicdehbedcdpaa

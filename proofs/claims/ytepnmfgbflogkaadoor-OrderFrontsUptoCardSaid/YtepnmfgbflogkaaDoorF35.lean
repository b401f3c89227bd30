/- OsS. -/
import Derived.Test.YtepnmfgbflogkaaDoorF34
namespace Go.Proofs.YtepnmfgbflogkaaDoor
open Go.ChangeShapes Go.WideShapes Go.ChangeAt Go.RowKit Go.Shelf Go.Maps

set_option maxRecDepth 20000 in
set_option maxHeartbeats 4000000 in
theorem own_any (w : World) : Calls Tryd.prog 12 #[] w fun r w' => ∃ g, r = .returned (fmV ownF (some ⟨g, 0, none⟩) 14) ∧ TkL w' (some ⟨g, 0, none⟩) w'.heap.size ownL ∧ Below w.heap.size w w' := by
  have hB : Hid (Below (w.alloc zFm).heap.size (w.alloc zFm) (w.alloc zFm)) := ⟨Below.refl _ _⟩
  go_enter Tryd.func12, Tryd.ntmps12
  go_upto_region 3 with (go_at_call 22; refine (own1_any _ _ _).mono ?_; rintro _ w1 ⟨rfl, hb1⟩; replace hB : Hid (Below (w.alloc zFm).heap.size (w.alloc zFm) w1) := ⟨hB.out.trans (hb1.mono hB.out.size)⟩; clear hb1)
  have hH : (w1.alloc oHd).heap[w1.heap.size]? = some oHd := heap_al _ _
  have hs1 : (w1.alloc oHd).heap.size = w1.heap.size + 1 := World.size_alloc _ _
  replace hB : Hid (Below (w.alloc zFm).heap.size (w.alloc zFm) (w1.alloc oHd)) := ⟨hB.out.alloc hB.out.size _⟩
  generalize w1.alloc oHd = W1 at hH hs1 hB ⊢
  replace hs1 : Hid _ := ⟨hs1⟩
  replace hH : Hid _ := ⟨hH⟩
  go_upto_region 4 with (guard_target =~ wpList _ _ _ (Oper.mk _ (Op.store 42 _ _) _ _ _ _ :: _) _ _; go_must (refine wpList_st 42 (.tmp 3) (.tmp 14) rfl rfl _ _ rfl rfl (st_new W1 _ rfl oU none 0) ?_); simp only [pts])
  have hu : (W1.alloc (tkO oU none 0)).heap[W1.heap.size]? = some (tkO oU none 0) := heap_al _ _
  have hs2 : Hid ((W1.alloc (tkO oU none 0)).heap.size = W1.heap.size + 1) := ⟨World.size_alloc _ _⟩
  replace hB : Hid (Below (w.alloc zFm).heap.size (w.alloc zFm) (W1.alloc (tkO oU none 0))) := ⟨hB.out.alloc hB.out.size _⟩
  replace hH : Hid ((W1.alloc (tkO oU none 0)).heap[w1.heap.size]? = some oHd) := ⟨((bel1 W1 (tkO oU none 0)).block _ (by have := hs1.out; omega)).trans hH.out⟩
  obtain ⟨p, p0, pB, pI, pN, pL⟩ := clsO1 _ _ _ hu
  generalize W1.alloc (tkO oU none 0) = W2 at hs2 hB hH p0 pB pI
  have cK : Hid (∀ W, p W → ∀ a b : Int, Calls Tryd.prog 22 #[.int .i64 a, .int .i64 b] W fun r w' => r = .returned (.agg #[.int .i64 a, .int .i64 b]) ∧ p w') := ⟨fun W hW a b => (own1_any a b W).mono fun r w' ⟨h1, h2⟩ => ⟨h1, pI _ ((pB _ hW).trans (h2.mono (pB _ hW).size))⟩⟩
  clear hu
  refine wp_region_pp p [0, 1, 2, 3, 4, 6, 9, 10, 11, 12, 15, 16, 17, 20, 21, 5, 7, 8, 13, 14, 18, 19, 22, 23] (by kernel_rfl) (by kernel_rfl) (fun _ _ d _ _ h => by cases d <;> exact h) p0 ?_
  simp only [List.filterMap_cons, List.filterMap_nil, List.getElem?_cons_zero, List.getElem?_cons_succ]
  have hp := p0
  generalize W2.drew = W at hp ⊢
  repeat (first | (guard_target =~ Lx _ _ _ _ (Oper.mk _ (Op.load 42 _) _ _ _ _ :: _) _ _; refine lx_ldO pL rfl rfl ?_; simp only [pts]) | (guard_target =~ Lx _ _ _ _ (Oper.mk _ (Op.call _) _ _ _ _ :: _) _ _; refine lx_callw ent_own1 (cK.out W hp _ _) rfl rfl rfl (by rfl) ?_; intro W hp; refine ⟨⟨⟨W, hp⟩, rfl⟩, ?_⟩; simp only [pts]) | (refine lx_one rfl ?_; (first | go_big_quiet_skip | (go_big_quiet_want; go_big_quiet_op; go_big_quiet_on)); refine wpQuiet_nil ?_))
  refine lx_bs (own_bs W) ⟨⟨_, pI _ ((pB _ hp).trans ((bel1 W _).mono (pB _ hp).size))⟩, rfl⟩ (by kernel_rfl) (by rfl) ?_
  simp only [pts]
  refine lx_one rfl ?_
  (first | go_big_quiet_skip | (go_big_quiet_want; go_big_quiet_op; go_big_quiet_on))
  refine wpQuiet_nil ?_
  refine lx_done ?_
  have g3 : (W.alloc (.cells (tkCs own0).toArray 42)).heap[W.heap.size]? = some (.cells (tkCs own0).toArray 42) := heap_al _ _
  have B3 : Below W2.heap.size W2 (W.alloc (.cells (tkCs own0).toArray 42)) := (pB _ hp).trans ((bel1 W _).mono (pB _ hp).size)
  have hWs := (pB _ hp).size
  have e1 := hs1.out
  have e2 := hs2.out
  have e3 := hB.out.size
  have e4 : (w.alloc zFm).heap.size = w.heap.size + 1 := World.size_alloc _ _
  generalize W.alloc (.cells (tkCs own0).toArray 42) = W3 at g3 B3
  have c62 : W3.cell? ⟨W.heap.size, 62, none⟩ = some (.int .i64 0) := (cell_at g3 62).trans own_62
  have z62 : W3.frozen? ⟨W.heap.size, 62, none⟩ = false := by simp only [World.frozen?, g3]; simp
  have g4 := cellSet g3 62 (.int .i64 2)
  have c146 : (W3.setCell ⟨W.heap.size, 62, none⟩ (.int .i64 2)).cell? ⟨W.heap.size, 146, none⟩ = some (.int .i64 0) := (cell_at g4 146).trans own_146
  have z146 : (W3.setCell ⟨W.heap.size, 62, none⟩ (.int .i64 2)).frozen? ⟨W.heap.size, 146, none⟩ = false := by simp only [World.frozen?, g4]; simp
  have g5 := cellSet g4 146 (.int .i64 6)
  rw [own_sets] at g5
  have H5 : ((W3.setCell ⟨W.heap.size, 62, none⟩ (.int .i64 2)).setCell ⟨W.heap.size, 146, none⟩ (.int .i64 6)).heap[w1.heap.size]? = some oHd := ((heap_setCell_other _ ⟨W.heap.size, 146, none⟩ w1.heap.size _ (by show w1.heap.size ≠ W.heap.size; omega)).trans (heap_setCell_other _ ⟨W.heap.size, 62, none⟩ w1.heap.size _ (by show w1.heap.size ≠ W.heap.size; omega))).trans ((B3.block _ (by omega)).trans hH.out)
  have Z5 : ((W3.setCell ⟨W.heap.size, 62, none⟩ (.int .i64 2)).setCell ⟨W.heap.size, 146, none⟩ (.int .i64 6)).heap[w.heap.size]? = some zFm := ((heap_setCell_other _ ⟨W.heap.size, 146, none⟩ w.heap.size _ (by show w.heap.size ≠ W.heap.size; omega)).trans (heap_setCell_other _ ⟨W.heap.size, 62, none⟩ w.heap.size _ (by show w.heap.size ≠ W.heap.size; omega))).trans ((B3.block _ (by omega)).trans ((hB.out.block _ (by omega)).trans (heap_al _ _)))
  have B5 : Below w.heap.size w ((W3.setCell ⟨W.heap.size, 62, none⟩ (.int .i64 2)).setCell ⟨W.heap.size, 146, none⟩ (.int .i64 6)) := (((((bel1 w zFm).trans (hB.out.mono (by omega))).trans (B3.mono (by omega))).setCell (p := ⟨W.heap.size, 62, none⟩) (by show w.heap.size ≤ W.heap.size; omega) _).setCell (p := ⟨W.heap.size, 146, none⟩) (by show w.heap.size ≤ W.heap.size; omega) _)
  have hne : Hid (w.heap.size ≠ W.heap.size) := ⟨by omega⟩
  replace g5 : Hid _ := ⟨g5⟩
  replace H5 : Hid _ := ⟨H5⟩
  replace Z5 : Hid _ := ⟨Z5⟩
  replace B5 : Hid _ := ⟨B5⟩
  clear g3 g4 B3 hWs e1 e2 e3 e4 hH hs1 hs2 hB p0 pB pI pN pL cK hp
  go_upto_region 7 with fail
  generalize (W3.setCell ⟨W.heap.size, 62, none⟩ (.int .i64 2)).setCell ⟨W.heap.size, 146, none⟩ (.int .i64 6) = W5 at g5 H5 Z5 B5
  clear c62 z62 c146 z146
  go_wp2_with (first
    | (guard_target =~ wpList _ _ _ (Oper.mk _ (Op.load 27 _) _ _ _ _ :: _) _ _; go_must (refine wpList_ld 27 (.tmp 2) rfl rfl _ _ rfl (hd_ld H5.out) ?_); simp only [pts])
    | (guard_target =~ wpList _ _ _ (Oper.mk _ (Op.store 30 _ _) _ _ _ _ :: _) _ _; go_must (refine wpList_st 30 (.tmp 0) (.tmp 46) rfl rfl _ _ rfl rfl (fm_st Z5.out rfl ownF (some ⟨W.heap.size, 0, none⟩) 14) ?_); simp only [pts]))
  refine bodyPost_ret (results_cell_row rfl _ _ w.heap.size 30 _ (0, 0) _ rfl (setRow_heap _ _ _ _ _ _ Z5.out) Tryd.underlying30 rfl infoFmO) rfl ⟨W.heap.size, rfl, ?_, ?_⟩
  · refine tkL_lit ((setRow_other _ _ _ _ hne.out.symm).trans g5.out) ?_ (by decide) own_toks
    rw [size_setRow]
    exact (Array.getElem?_eq_some_iff.1 g5.out).1
  · exact B5.out.trans ⟨rfl, rfl, rfl, by rw [size_setRow]; exact Nat.le_refl _, fun k hk => setRow_other _ _ _ _ (by omega)⟩
end Go.Proofs.YtepnmfgbflogkaaDoor

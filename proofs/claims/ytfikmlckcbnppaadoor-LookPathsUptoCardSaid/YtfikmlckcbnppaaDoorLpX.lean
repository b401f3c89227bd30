/- The law's own, walked. -/
import Derived.Test.YtfikmlckcbnppaaDoorLpW
import Derived.Test.YtfikmlckcbnppaaDoorLpV
namespace Go.Proofs.YtfikmlckcbnppaaDoor
open Go.ChangeShapes Go.WideShapes Go.ChangeAt Go.RowKit Go.Shelf Go.Maps

abbrev aqO (v1 v2 v3 v4 : Value) : Obj := .cells (askC v1 v2 v3 v4) 40
theorem infoAq : (Tryd.prog.info? 40).map (·.size) = some 17 := by kernel_rfl
theorem undAq : ∃ d, Tryd.prog.underlying 40 = some d ∧ d.isRow = true := ⟨_, Tryd.underlying40, rfl⟩
/-- Four lists of an Asked. -/
structure One4 (v1 v2 v3 v4 : Value) : Prop where
  a1 : v1.oneCell' = true
  a2 : v2.oneCell' = true
  a3 : v3.oneCell' = true
  a4 : v4.oneCell' = true
theorem aq_one {v1 v2 v3 v4 : Value} (h : One4 v1 v2 v3 v4) : (askC v1 v2 v3 v4).all (·.oneCell') = true := by
  obtain ⟨a, b, c, d⟩ := h
  simp [Value.oneCell'] at a b c d ⊢
  exact ⟨a, b, c, d⟩
theorem aq_new (w : World) (z : Array Value) (hz : z.size = 17) {v1 v2 v3 v4 : Value} (h : One4 v1 v2 v3 v4) : (Instr.storeAt 40 (.pointer (some ⟨w.heap.size, 0, none⟩)) (.agg (askC v1 v2 v3 v4))).run Tryd.prog (w.alloc (.cells z 40)) = .ok () (w.alloc (aqO v1 v2 v3 v4)) :=
  run_storeAt_new w 40 z _ infoAq hz (aq_one h)
theorem aq_st {w : World} {b : Nat} {old : Array Value} (hb : w.heap[b]? = some (.cells old 40)) (ho : old.size = 17) {v1 v2 v3 v4 : Value} (h : One4 v1 v2 v3 v4) : (Instr.storeAt 40 (.pointer (some ⟨b, 0, none⟩)) (.agg (askC v1 v2 v3 v4))).run Tryd.prog w = .ok () (w.setRow b (askC v1 v2 v3 v4)) := by
  simp only [Instr.storeAt, Instr.sureAddr, Sem.run_bind, Sem.run_pure, Result.andThen]
  exact run_storeVar_row _ _ _ _ _ _ hb infoAq (by rw [ho]; rfl) (aq_one h)
theorem aq_ld {w : World} {b : Nat} {v1 v2 v3 v4 : Value} (hb : w.heap[b]? = some (aqO v1 v2 v3 v4)) : (Instr.loadAt 40 (.pointer (some ⟨b, 0, none⟩))).run Tryd.prog w = .ok (.agg (askC v1 v2 v3 v4)) w := by
  obtain ⟨d, hu, hd⟩ := undAq
  refine run_loadAt_mid w b 0 40 (askC v1 v2 v3 v4).toList d (fun j v hj => ?_) hu hd infoAq
  rw [Nat.zero_add, cell_at hb]
  simpa using hj
/-- The four lists of one's own, each with one more behind it. -/
structure OwnA (w : World) (B : Nat) (l : List (ByteArray × Int)) (g1 c1 g2 c2 g3 c3 g4 c4 : Nat) : Prop where
  t : w.ownsRow B 61 21 (.slice (some ⟨g1, 0, none⟩) 1 c1) 1 tkSp
  b : w.ownsRow B 5 1 (.slice (some ⟨g2, 0, none⟩) 1 c2) 1 [.int .u8 201]
  p : w.ownsRow B 46 2 (.slice (some ⟨g3, 0, none⟩) (l.length + 1) c3) (l.length + 1) (spL l ++ [.string spareS, .int .i64 0])
  w : w.ownsRow B 59 1 (.slice (some ⟨g4, 0, none⟩) 1 c4) 1 [.int .u64 77]
  k1 : 1 ≤ c1
  k2 : 1 ≤ c2
  k3 : l.length + 1 ≤ c3
  k4 : 1 ≤ c4
abbrev owV (l : List (ByteArray × Int)) (g1 c1 g2 c2 g3 c3 g4 c4 : Nat) : Array Value := askC (.slice (some ⟨g1, 0, none⟩) 0 c1) (.slice (some ⟨g2, 0, none⟩) 0 c2) (.slice (some ⟨g3, 0, none⟩) l.length c3) (.slice (some ⟨g4, 0, none⟩) 0 c4)
theorem own_keep2 {W W' : World} {B z n : Nat} {ty : TypeId} {v : Value} {xs : List Value} (h : W.ownsRow B ty z v n xs) (hb : Below W.heap.size W W') : W'.ownsRow B ty z v n xs := own_stay h fun g hg => hb.block g (h.lt g hg).2
theorem own_mono {W : World} {B B' z n : Nat} {ty : TypeId} {v : Value} {xs : List Value} (h : W.ownsRow B ty z v n xs) (hb : B' ≤ B) : W.ownsRow B' ty z v n xs := by
  refine ⟨h.1, ?_⟩
  rcases h.2 with h0 | ⟨g, cap, cur, e, hb', r⟩
  · exact .inl h0
  · exact .inr ⟨g, cap, cur, e, by omega, r⟩
/-- Blocks of one's own stay. -/
theorem OwnA.stay {W W' : World} {B B' : Nat} {l : List (ByteArray × Int)} {g1 c1 g2 c2 g3 c3 g4 c4 : Nat} (h : OwnA W B l g1 c1 g2 c2 g3 c3 g4 c4) (hB : B' ≤ B) (hb : ∀ k, B ≤ k → k < W.heap.size → W'.heap[k]? = W.heap[k]?) : OwnA W' B' l g1 c1 g2 c2 g3 c3 g4 c4 :=
  ⟨own_mono (own_stay h.t fun g hg => hb g (h.t.lt g hg).1 (h.t.lt g hg).2) hB, own_mono (own_stay h.b fun g hg => hb g (h.b.lt g hg).1 (h.b.lt g hg).2) hB, own_mono (own_stay h.p fun g hg => hb g (h.p.lt g hg).1 (h.p.lt g hg).2) hB, own_mono (own_stay h.w fun g hg => hb g (h.w.lt g hg).1 (h.w.lt g hg).2) hB, h.k1, h.k2, h.k3, h.k4⟩
set_option maxRecDepth 20000 in
set_option maxHeartbeats 2000000 in
theorem own_any (l : List (ByteArray × Int)) (pp : Option Addr) (cp : Nat) (w : World) (hr : SpRow w pp w.heap.size l) (hl : l.length ≤ 1048576) : Calls Tryd.prog 7 #[.agg (askC nilS nilS (.slice pp l.length cp) nilS)] w fun e w' => ∃ g1 c1 g2 c2 g3 c3 g4 c4, e = .returned (.agg (owV l g1 c1 g2 c2 g3 c3 g4 c4)) ∧ OwnA w' w.heap.size l g1 c1 g2 c2 g3 c3 g4 c4 ∧ Below w.heap.size w w' := by
  obtain ⟨W0, hW0⟩ : ∃ W, W = (w.alloc (aqO nilS nilS (.slice pp l.length cp) nilS)).alloc (aqO nilS nilS nilS nilS) := ⟨_, rfl⟩
  have hs0 : W0.heap.size = w.heap.size + 1 + 1 := by rw [hW0]; simp
  have hB0 : Below w.heap.size w W0 := by rw [hW0]; exact (bel1 w _).trans ((bel1 _ _).mono (bel1 w (aqO nilS nilS (.slice pp l.length cp) nilS)).size)
  have hx0 : W0.heap[w.heap.size]? = some (aqO nilS nilS (.slice pp l.length cp) nilS) := by rw [hW0]; exact ((bel1 _ _).block _ (by simp)).trans (heap_al w _)
  have hy0 : W0.heap[w.heap.size + 1]? = some (aqO nilS nilS nilS nilS) := by rw [hW0]; have := heap_al (w.alloc (aqO nilS nilS (.slice pp l.length cp) nilS)) (aqO nilS nilS nilS nilS); simpa using this
  obtain ⟨g1, c1, w1, r1, o1, b1, k1⟩ := ap_one Tryd.underlying34 infoTkK rfl (by decide) (by decide) W0 tkSp rfl (by simp [Value.oneCell'])
  obtain ⟨g2, c2, w2, r2, o2, b2, k2⟩ := ap_one Tryd.underlying37 infoU8K rfl (by decide) (by decide) w1 [.int .u8 201] rfl (by simp [Value.oneCell'])
  have B2 : Below W0.heap.size W0 w2 := b1.trans (b2.mono b1.size)
  have hr2 : SpRow w2 pp w.heap.size l := hr.below (hB0.trans (B2.mono hB0.size))
  obtain ⟨p3, d3, w3, r3, o3, b3⟩ := st_cp cp hr2 hl
  obtain ⟨v4, w4, r4, o4, b4, -, -⟩ := ap_genP (W := w3) (base := w2.heap.size) Tryd.underlying22 infoSpK rfl (by decide) o3 [.string spareS, .int .i64 0] rfl (by simp [Value.oneCell']) (by omega) (by omega) b3.size
  obtain ⟨g3, c3, rfl, k3⟩ : ∃ g c, v4 = .slice (some ⟨g, 0, none⟩) (l.length + 1) c ∧ l.length + 1 ≤ c := by
    rcases o4.2 with ⟨_, h0⟩ | ⟨g, cap, cur, e, _, _, hn, -⟩
    · omega
    · exact ⟨g, cap, e, hn⟩
  obtain ⟨g4, c4, w5, r5, o5, b5, k4⟩ := ap_one Tryd.underlying38 infoU64K rfl (by decide) (by decide) w4 [.int .u64 77] rfl (by simp [Value.oneCell'])
  have B4 : Below w2.heap.size w2 w4 := b3.trans b4
  have B5 : Below w2.heap.size w2 w5 := B4.trans (b5.mono B4.size)
  have S1 := b1.size
  have S2 := b2.size
  have S3 := b3.size
  have S4 := B4.size
  have S5 := b5.size
  have O : Hid (OwnA w5 (w.heap.size + 2) l g1 c1 g2 c2 g3 c3 g4 c4) := Hid.mk ⟨own_mono (own_keep2 (own_keep2 o1 b2) B5) (by omega), own_mono (own_keep2 o2 B5) (by omega), own_mono (own_keep2 o4 b5) (by omega), own_mono o5 (by omega), k1, k2, k3, k4⟩
  have xc : ∀ W, Below W0.heap.size W0 W → W.cell? ⟨w.heap.size, 12, none⟩ = some nilS ∧ W.cell? ⟨w.heap.size, 13, none⟩ = some nilS ∧ W.cell? ⟨w.heap.size, 15, none⟩ = some (.slice pp l.length cp) ∧ W.cell? ⟨w.heap.size, 16, none⟩ = some nilS := fun W h => by
    have hx := (h.block w.heap.size (by omega)).trans hx0
    exact ⟨cell_at hx 12, cell_at hx 13, cell_at hx 15, cell_at hx 16⟩
  have x0 := (xc W0 (Below.refl _ _)).1
  have x1 := (xc w1 b1).2.1
  have x2 := (xc w2 B2).2.2.1
  have x4 := (xc w4 (B2.trans (B4.mono (by omega)))).2.2.2
  have n1 := ap_nn Tryd.underlying34 infoTkK W0 0
  have n2 := ap_nn Tryd.underlying37 infoU8K w1 0
  have n4 := ap_nn Tryd.underlying38 infoU64K w4 0
  have hx5 : Hid (w5.heap[w.heap.size]? = some (aqO nilS nilS (.slice pp l.length cp) nilS)) := ⟨((B2.trans (B5.mono (by omega))).block _ (by omega)).trans hx0⟩
  have hy5 : Hid (w5.heap[w.heap.size + 1]? = some (aqO nilS nilS nilS nilS)) := ⟨((B2.trans (B5.mono (by omega))).block _ (by omega)).trans hy0⟩
  have bB5 : Hid (Below w.heap.size w w5) := ⟨hB0.trans ((B2.trans (B5.mono (by omega))).mono (by omega))⟩
  have hsz : Hid (w.heap.size + 1 < w5.heap.size) := ⟨by omega⟩
  have hW : _ = W0 := hW0.symm
  simp only [aqO, askC] at hW
  clear hW0 hs0 hB0 hx0 hy0 o1 b1 o2 b2 B2 hr2 o3 b3 o4 b4 o5 b5 B4 B5 S1 S2 S3 S4 S5 xc hr
  have F1 : Hid (1 = 1) := ⟨rfl⟩
  have F2 : Hid (2 = 2) := ⟨rfl⟩
  have F3 : Hid (3 = 3) := ⟨rfl⟩
  have F4 : Hid (4 = 4) := ⟨rfl⟩
  have F5 : Hid (5 = 5) := ⟨rfl⟩
  have F6 : Hid (6 = 6) := ⟨rfl⟩
  have F7 : Hid (7 = 7) := ⟨rfl⟩
  go_enter Tryd.func7, Tryd.ntmps7
  go_upto_region 13 with (at_builtin; first
    | (clear F1; go_must (refine (wpList_append_ex (by rfl) _ _ _ _ (by rfl) _ _ (by rfl) (by rfl) (fun a b => a = nilS ∧ W0 = b) ⟨_, W0, n1, rfl, rfl⟩ ?_)); rintro _ _ ⟨rfl, rfl⟩; simp only [pts])
    | (clear F2; go_must (refine (wpList_append_ex (by rfl) _ _ _ _ (by rfl) _ _ (by rfl) (by rfl) (fun a b => a = .slice (some ⟨g1, 0, none⟩) 1 c1 ∧ w1 = b) ⟨_, w1, r1, rfl, rfl⟩ ?_)); rintro _ _ ⟨rfl, rfl⟩; simp only [pts])
    | (clear F3; go_must (refine (wpList_append_ex (by rfl) _ _ _ _ (by rfl) _ _ (by rfl) (by rfl) (fun a b => a = nilS ∧ w1 = b) ⟨_, w1, n2, rfl, rfl⟩ ?_)); rintro _ _ ⟨rfl, rfl⟩; simp only [pts])
    | (clear F4; go_must (refine (wpList_append_ex (by rfl) _ _ _ _ (by rfl) _ _ (by rfl) (by rfl) (fun a b => a = .slice (some ⟨g2, 0, none⟩) 1 c2 ∧ w2 = b) ⟨_, w2, r2, rfl, rfl⟩ ?_)); rintro _ _ ⟨rfl, rfl⟩; simp only [pts])
    | (clear F5; go_must (refine (wpList_append_ex (by rfl) _ _ _ _ (by rfl) _ _ (by rfl) (by rfl) (fun a b => a = .slice p3 l.length d3 ∧ w3 = b) ⟨_, w3, r3, rfl, rfl⟩ ?_)); rintro _ _ ⟨rfl, rfl⟩; simp only [pts])
    | (clear F6; go_must (refine (wpList_append_ex (by rfl) _ _ _ _ (by rfl) _ _ (by rfl) (by rfl) (fun a b => a = .slice (some ⟨g3, 0, none⟩) (l.length + 1) c3 ∧ w4 = b) ⟨_, w4, r4, rfl, rfl⟩ ?_)); rintro _ _ ⟨rfl, rfl⟩; simp only [pts])
    | (clear F7; go_must (refine (wpList_append_ex (by rfl) _ _ _ _ (by rfl) _ _ (by rfl) (by rfl) (fun a b => a = nilS ∧ w4 = b) ⟨_, w4, n4, rfl, rfl⟩ ?_)); rintro _ _ ⟨rfl, rfl⟩; simp only [pts])
    | (go_must (refine (wpList_append_ex (by rfl) _ _ _ _ (by rfl) _ _ (by rfl) (by rfl) (fun a b => a = .slice (some ⟨g4, 0, none⟩) 1 c4 ∧ w5 = b) ⟨_, w5, r5, rfl, rfl⟩ ?_)); rintro _ _ ⟨rfl, rfl⟩; simp only [pts]))
  have lX := aq_ld hx5.out
  have sY : Hid (∀ z : Array Value, z.size = 17 → (Instr.storeAt 40 (.pointer (some ⟨w5.heap.size, 0, none⟩)) (.agg (askC nilS nilS (.slice pp l.length cp) nilS))).run Tryd.prog (w5.alloc (.cells z 40)) = .ok () (w5.alloc (aqO nilS nilS (.slice pp l.length cp) nilS))) := ⟨fun z hz => aq_new w5 z hz ⟨rfl, rfl, rfl, rfl⟩⟩
  obtain ⟨Y, hY⟩ : ∃ Y, Y = w5.heap.size := ⟨_, rfl⟩
  obtain ⟨Y0, e0⟩ : ∃ X, w5.alloc (aqO nilS nilS (.slice pp l.length cp) nilS) = X := ⟨_, rfl⟩
  have hne : w.heap.size ≠ Y := by have := hsz.out; omega
  have hne1 : w.heap.size + 1 ≠ Y := by have := hsz.out; omega
  have bY0 : Below w5.heap.size w5 Y0 := e0 ▸ bel1 w5 _
  have y0 : Y0.heap[Y]? = some (aqO nilS nilS (.slice pp l.length cp) nilS) := by rw [← e0, hY]; exact heap_al w5 _
  have q0 : Y0.heap[w.heap.size]? = _ := (bY0.block _ (by have := hsz.out; omega)).trans hx5.out
  have z0 : Y0.heap[w.heap.size + 1]? = _ := (bY0.block _ hsz.out).trans hy5.out
  obtain ⟨Y1, e1⟩ : ∃ X, Y0.setCell ⟨Y, 12, none⟩ (.slice (some ⟨g1, 0, none⟩) 0 c1) = X := ⟨_, rfl⟩
  obtain ⟨Y2, e2⟩ : ∃ X, Y1.setCell ⟨Y, 13, none⟩ (.slice (some ⟨g2, 0, none⟩) 0 c2) = X := ⟨_, rfl⟩
  obtain ⟨Y3, e3⟩ : ∃ X, Y2.setCell ⟨Y, 15, none⟩ (.slice (some ⟨g3, 0, none⟩) l.length c3) = X := ⟨_, rfl⟩
  obtain ⟨Y4, e4⟩ : ∃ X, Y3.setCell ⟨Y, 16, none⟩ (.slice (some ⟨g4, 0, none⟩) 0 c4) = X := ⟨_, rfl⟩
  have y1 : Y1.heap[Y]? = some (aqO (.slice (some ⟨g1, 0, none⟩) 0 c1) nilS (.slice pp l.length cp) nilS) := by rw [← e1]; exact set_at y0 _
  have y2 : Y2.heap[Y]? = some (aqO (.slice (some ⟨g1, 0, none⟩) 0 c1) (.slice (some ⟨g2, 0, none⟩) 0 c2) (.slice pp l.length cp) nilS) := by rw [← e2]; exact set_at y1 _
  have y3 : Y3.heap[Y]? = some (aqO (.slice (some ⟨g1, 0, none⟩) 0 c1) (.slice (some ⟨g2, 0, none⟩) 0 c2) (.slice (some ⟨g3, 0, none⟩) l.length c3) nilS) := by rw [← e3]; exact set_at y2 _
  have y4 : Y4.heap[Y]? = some (.cells (owV l g1 c1 g2 c2 g3 c3 g4 c4) 40) := by rw [← e4]; exact set_at y3 _
  have o1 : ∀ k, k ≠ Y → Y1.heap[k]? = Y0.heap[k]? := fun k hk => by rw [← e1]; exact set_off hk
  have o2 : ∀ k, k ≠ Y → Y2.heap[k]? = Y0.heap[k]? := fun k hk => by rw [← e2]; exact (set_off hk).trans (o1 k hk)
  have o3 : ∀ k, k ≠ Y → Y3.heap[k]? = Y0.heap[k]? := fun k hk => by rw [← e3]; exact (set_off hk).trans (o2 k hk)
  have o4 : ∀ k, k ≠ Y → Y4.heap[k]? = Y0.heap[k]? := fun k hk => by rw [← e4]; exact (set_off hk).trans (o3 k hk)
  have a0 : Y0.cell? ⟨w.heap.size, 12, none⟩ = some nilS := cell_at q0 12
  have a1 : Y1.cell? ⟨w.heap.size, 13, none⟩ = some nilS := cell_at ((o1 _ hne).trans q0) 13
  have a2 : Y2.cell? ⟨w.heap.size, 15, none⟩ = some (.slice pp l.length cp) := cell_at ((o2 _ hne).trans q0) 15
  have a3 : Y3.cell? ⟨w.heap.size, 16, none⟩ = some nilS := cell_at ((o3 _ hne).trans q0) 16
  have f0 : Y0.frozen? ⟨Y, 12, none⟩ = false := frz_at y0
  have f1 : Y1.frozen? ⟨Y, 13, none⟩ = false := frz_at y1
  have f2 : Y2.frozen? ⟨Y, 15, none⟩ = false := frz_at y2
  have f3 : Y3.frozen? ⟨Y, 16, none⟩ = false := frz_at y3
  have c0 : Y0.cell? ⟨Y, 12, none⟩ = some nilS := cell_at y0 12
  have c1' : Y1.cell? ⟨Y, 13, none⟩ = some nilS := cell_at y1 13
  have c2' : Y2.cell? ⟨Y, 15, none⟩ = some (.slice pp l.length cp) := cell_at y2 15
  have c3' : Y3.cell? ⟨Y, 16, none⟩ = some nilS := cell_at y3 16
  have lY := aq_ld y4
  have sR := aq_st ((o4 _ hne1).trans z0) rfl (v1 := .slice (some ⟨g1, 0, none⟩) 0 c1) (v2 := .slice (some ⟨g2, 0, none⟩) 0 c2) (v3 := .slice (some ⟨g3, 0, none⟩) l.length c3) (v4 := .slice (some ⟨g4, 0, none⟩) 0 c4) ⟨rfl, rfl, rfl, rfl⟩
  obtain ⟨YE, hYE⟩ : ∃ X, Y4.setRow (w.heap.size + 1) (owV l g1 c1 g2 c2 g3 c3 g4 c4) = X := ⟨_, rfl⟩
  have z4 := (o4 _ hne1).trans z0
  have hE : ∀ k, k < w5.heap.size → k ≠ w.heap.size + 1 → YE.heap[k]? = w5.heap[k]? := fun k hk hn => by
    rw [← hYE]
    exact (setRow_other _ _ _ _ hn).trans ((o4 k (by omega)).trans (bY0.block k hk))
  have sE : w5.heap.size ≤ YE.heap.size := by rw [← hYE, size_setRow, ← e4, ← e3, ← e2, ← e1]; simpa [World.setCell] using bY0.size
  have zE : YE.heap[w.heap.size + 1]? = some (.cells (owV l g1 c1 g2 c2 g3 c3 g4 c4) 40) := by rw [← hYE]; exact setRow_heap _ _ _ _ _ _ z4
  have kE : YE.os = w5.os ∧ YE.tape = w5.tape ∧ YE.output = w5.output := by rw [← hYE, ← e4, ← e3, ← e2, ← e1]; exact ⟨bY0.os, bY0.tape, bY0.output⟩
  have FE : Hid (OwnA YE w.heap.size l g1 c1 g2 c2 g3 c3 g4 c4 ∧ Below w.heap.size w YE) := Hid.mk ⟨O.out.stay (by omega) (fun k h1 h2 => hE k h2 (by omega)), ⟨kE.1.trans bB5.out.os, kE.2.1.trans bB5.out.tape, kE.2.2.trans bB5.out.output, Nat.le_trans bB5.out.size sE, fun k hk => (hE k (by have := hsz.out; omega) (by omega)).trans (bB5.out.block k hk)⟩⟩
  rw [e0] at sY
  subst hY
  clear n1 n2 n4 r1 r2 r3 r4 r5 x0 x1 x2 x4 hW
  have hc3 : (l.length : Int) ≤ (l.length : Int) + 1 := by omega
  go_wp2_with (first
    | (guard_target =~ wpList _ _ _ (Oper.mk _ (Op.load 40 _) _ _ _ _ :: _) _ _; go_must (first | refine wpList_ld 40 (.tmp 1) rfl rfl _ _ rfl lX ?_ | refine wpList_ld 40 (.tmp 7) rfl rfl _ _ rfl lY ?_); simp only [pts])
    | (guard_target =~ wpList _ _ _ (Oper.mk _ (Op.store 40 (.tmp 7) _) _ _ _ _ :: _) _ _; go_must (refine wpList_st 40 _ _ rfl rfl _ _ rfl rfl (sY.out _ rfl) ?_); simp only [pts])
    | (guard_target =~ wpList _ _ _ (Oper.mk _ (Op.store 40 (.tmp 2) _) _ _ _ _ :: _) _ _; go_must (refine wpList_st 40 _ _ rfl rfl _ _ rfl rfl sR ?_); simp only [pts]))
  rw [hYE]
  exact bodyPost_ret (results_cell_row rfl _ _ (w.heap.size + 1) 40 _ (0, 0) _ rfl zE Tryd.underlying40 rfl infoAq) rfl ⟨_, _, _, _, _, _, _, _, rfl, FE.out.1, FE.out.2⟩
end Go.Proofs.YtfikmlckcbnppaaDoor

/- The law's own: copied, on. -/
import Derived.Test.YtchfphakhmifmaaTCop
namespace Go.Proofs.Ytchfphakhmifmaa
open Go.ChangeShapes Go.WideShapes Go.ChangeAt Go.RowKit

abbrev elO (e : El) (av : Value) : Obj := .cells #[.int .i64 e.d, .string e.nm, av, .string e.tx, .int .i64 e.p] 32
theorem elCells_snoc (ps : List (El × Value)) (x : El × Value) : elCells (ps ++ [x]) = elCells ps ++ elC x.1 x.2 := by
  unfold elCells
  rw [List.flatMap_append]
  simp
theorem attCells_snoc (al : List Att) (x : Att) : attCells (al ++ [x]) = attCells al ++ attC x := by
  unfold attCells
  rw [List.flatMap_append]
  simp
theorem elC_one (e : El) (pa : Option Addr) (n c : Nat) : ∀ u ∈ elC e (.slice pa n c), u.oneCell' = true := by
  intro u hu
  simp only [elC, List.mem_cons, List.not_mem_nil, or_false] at hu
  rcases hu with rfl | rfl | rfl | rfl | rfl <;> rfl
theorem own_cap {w : World} {base : Nat} {e : TypeId} {size : Nat} {pp : Option Addr} {n cap : Nat} {xs : List Value} (h : w.ownsRow base e size (.slice pp n cap) n xs) (hn : 0 < n) : n ≤ cap := by
  rcases h.2 with ⟨_, h0⟩ | ⟨g, cp, cur, hv, _, _, hc, _⟩
  · omega
  · injection hv with _ _ h3
    omega
theorem elO_set {W : World} {X : Nat} {x : El} {a : Value} (h : W.heap[X]? = some (elO x a)) (b : Value) : (W.setCell ⟨X, 2, none⟩ b).heap[X]? = some (elO x b) := by
  have hX := (Array.getElem?_eq_some_iff.1 h).1
  have e : (W.setCell ⟨X, 2, none⟩ b).heap = W.heap.modify X (fun o => match o with
    | .cells cs t f => .cells (cs.setIfInBounds 2 b) t f
    | o => o) := by
    rfl
  rw [e, Array.getElem?_modify, if_pos rfl, h]
  rfl
theorem elO_cell {W : World} {X : Nat} {x : El} {a : Value} (h : W.heap[X]? = some (elO x a)) : W.cell? ⟨X, 0, none⟩ = some (.int .i64 x.d) ∧ W.cell? ⟨X, 1, none⟩ = some (.string x.nm) ∧ W.cell? ⟨X, 2, none⟩ = some a ∧ W.cell? ⟨X, 3, none⟩ = some (.string x.tx) ∧ W.cell? ⟨X, 4, none⟩ = some (.int .i64 x.p) ∧ ∀ o, W.frozen? ⟨X, o, none⟩ = false := by
  refine ⟨?_, ?_, ?_, ?_, ?_, fun o => ?_⟩
  · simp only [World.cell?, h]; rfl
  · simp only [World.cell?, h]; rfl
  · simp only [World.cell?, h]; rfl
  · simp only [World.cell?, h]; rfl
  · simp only [World.cell?, h]; rfl
  · simp only [World.frozen?, h]; simp
set_option maxRecDepth 100000 in
set_option maxHeartbeats 4000000 in
theorem copied_any (pp : Option Addr) (cp : Nat) (es : List El) (w : World) (hr : ERow w pp w.heap.size es) (hl : es.length * 72 ≤ 140737488351232) (ha : ∀ e ∈ es, e.ats.length * 40 ≤ 140737488351232) :
    Calls Try.prog 5 #[.slice pp es.length cp] w fun e w' => ∃ g cap, e = .returned (.slice (some ⟨g, 0, none⟩) es.length cap) ∧ CRow w' w.heap.size g cap es ∧ Below w.heap.size w w' := by
  obtain ⟨iA, hiA, hzA, hsA, hbA⟩ := tinfo infoAt
  obtain ⟨iE, hiE, hzE, hsE, hbE⟩ := tinfo infoEl
  go_enter Try.func5, Try.ntmps5
  go_wp2_with fail
  go_loopw [3, 4] (fun v i wr => ∃ (k : Nat) (ps : List (El × Value)), k ≤ es.length ∧ i = .int .i64 k ∧ ps.map (·.1) = es.take k ∧ wr.ownsRow w.heap.size 32 5 v k (elCells ps) ∧ (∀ x ∈ ps, AGood wr w.heap.size v.ownBlock x.1 x.2) ∧ Below w.heap.size w wr) (fun _ i _ => es.length - (RowKit.intOf i).toNat)
  case atStart => exact ⟨0, [], Nat.zero_le _, rfl, rfl, World.ownsRow_nil _ _ _ 5, fun _ h => (by cases h), Below.refl _ _⟩
  case round =>
    obtain ⟨k, ps, hk, rfl, hps, hO, hG, hB⟩ := hrel
    by_cases hlt : k < es.length
    · obtain ⟨x, hx⟩ : ∃ x, es[k]? = some x := ⟨es[k], List.getElem?_eq_getElem hlt⟩
      obtain ⟨g, o, pa, ca, rfl, hg, q0, q1, q2, q3, q4, hA⟩ := (hr.below hB).c k x hx
      have hxa := ha x (List.mem_of_getElem? hx)
      have hb1 : Below wr.heap.size wr (wr.alloc (elO x (.slice pa x.ats.length ca))) := (Below.refl _ _).alloc (Nat.le_refl _) _
      have hA1 := (hA.mono hB.size).below hb1
      obtain ⟨v2, w2, hrun, hO2, hB2⟩ := att_cp (ca := ca) hA1 hxa
      have hlt2 : (k : Int) < es.length := by omega
      have hX := thn wr (elO x (.slice pa x.ats.length ca))
      have hXc : (wr.alloc (elO x (.slice pa x.ats.length ca))).cell? ⟨wr.heap.size, 2, none⟩ = some (.slice pa x.ats.length ca) := by simp only [World.cell?, hX]; rfl
      have F1 : Hid (1 = 1) := rfl
      have F2 : Hid (1 = 1) := rfl
      have F3 : Hid (1 = 1) := rfl
      have hN2 : ∀ j u, (attC spareA)[j]? = some u → (w2.alloc (.cells #[.string spareS, .string ⟨#[]⟩, .int .i64 0] 35)).cell? ((⟨w2.heap.size, 0, none⟩ : Addr).add j) = some u := World.news_of_block (thn w2 _)
      rw [World.size_alloc] at hO2 hB2
      have hO3 := ownsRow_below hO2 ((Below.refl _ w2).alloc (Nat.le_refl _) (.cells #[.string spareS, .string ⟨#[]⟩, .int .i64 0] 35))
      go_wp2_with (first
        | (at_builtin; clear F1; go_must (refine (twpList_append_ex (by rfl) _ _ _ _ (by rfl) _ _ (by rfl) (by rfl) (fun a b => v2 = a ∧ w2 = b) ⟨v2, w2, hrun, rfl, rfl⟩ ?_)); rintro _ _ ⟨rfl, rfl⟩)
        | (at_builtin; clear F2; go_must (refine wpList_append_lies _ rfl _ _ 30 rfl (wr.heap.size + 1) 35 iA zAtt 3 40 Try.underlying30 hiA hzA hsA hbA rfl (by decide) v2 x.ats.length (attCells x.ats) rfl hO3 ⟨w2.heap.size, 0, none⟩ 1 1 (attC spareA) rfl rfl hN2 (fun u hu => by simp only [attC, List.mem_cons, List.not_mem_nil, or_false] at hu; rcases hu with rfl | rfl | rfl <;> rfl) (by decide) (by simp only [maxLen]; omega) (by omega) (by have := hB2.size; simp at this ⊢; omega) (w2.heap.size + 1) (by simp) ?_); intro ga capa w4 hO4 hgr4 hat4 hlt4; have hB4 : Below (wr.heap.size + 1) (wr.alloc (elO x (.slice pa x.ats.length ca))) w4 := hB2.trans (((Below.refl _ w2).alloc (by have := hB2.size; simp at this; omega) _).grown hgr4 (by have := hB2.size; simp at this ⊢; omega) (own_ge hO2)); have hX4 : w4.heap[wr.heap.size]? = some (elO x (.slice pa x.ats.length ca)) := (hB4.block _ (by omega)).trans hX; have q24 : w4.cell? ⟨g, o + k * 5 + 2, none⟩ = some (.slice pa x.ats.length ca) := (hB4.cell (p := ⟨g, _, none⟩) (by have := hB.size; show g < _; omega)).trans ((hb1.cell (p := ⟨g, _, none⟩) (by have := hB.size; show g < _; omega)).trans q2); have hcap := own_cap hO4 (by omega); obtain ⟨c0, c1, c2, c3, c4, cf⟩ := elO_cell hX4; obtain ⟨d0, d1, d2, d3, d4, df⟩ := elO_cell (elO_set hX4 (.slice (some ⟨ga, 0, none⟩) x.ats.length capa)); have hci : (x.ats.length : Int) ≤ capa := (by omega); have hB5 : Below wr.heap.size wr ((w4.setCell ⟨wr.heap.size, 2, none⟩ (.slice (some ⟨ga, 0, none⟩) x.ats.length capa)).alloc (elO x (.slice (some ⟨ga, 0, none⟩) x.ats.length capa))) := ((hb1.trans (hB4.mono (by omega))).setCell (Nat.le_refl _) _).alloc (by have := hB4.size; simp [World.setCell] at this ⊢; omega) _; have hO5 := ownsRow_below hO hB5)
        | (at_builtin; clear F3; go_must (refine wpList_append_lies _ rfl _ _ 22 rfl w.heap.size 32 iE zEl 5 72 Try.underlying22 hiE hzE hsE hbE rfl (by decide) _ k (elCells ps) rfl hO5 ⟨w4.heap.size, 0, none⟩ 1 1 (elC x (.slice (some ⟨ga, 0, none⟩) x.ats.length capa)) rfl rfl (World.news_of_block (by simpa [World.setCell] using thn (w4.setCell ⟨wr.heap.size, 2, none⟩ (.slice (some ⟨ga, 0, none⟩) x.ats.length capa)) (elO x (.slice (some ⟨ga, 0, none⟩) x.ats.length capa)))) (elC_one x _ _ _) (by decide) (by simp only [maxLen]; omega) (by omega) (Nat.le_trans hB.size hB5.size) _ rfl ?_); intro gn capn w6 hO6 hgr6 hat6 hlt6))
      have hX5 : ∀ off, ((w4.setCell ⟨wr.heap.size, 2, none⟩ (.slice (some ⟨ga, 0, none⟩) x.ats.length capa)).alloc (elO x (.slice (some ⟨ga, 0, none⟩) x.ats.length capa))).cell? ⟨ga, off, none⟩ = w4.cell? ⟨ga, off, none⟩ := fun off => by
        have hga := own_ge hO4 ga rfl
        refine (((Below.refl _ (w4.setCell ⟨wr.heap.size, 2, none⟩ (.slice (some ⟨ga, 0, none⟩) x.ats.length capa))).alloc (Nat.le_refl _) _).cell (p := ⟨ga, off, none⟩) (by simpa [World.setCell] using hlt4)).trans ?_
        exact World.cell?_setCell_other w4 _ _ _ (fun e => by injection e with e1 _; omega)
      rw [show attCells x.ats ++ attC spareA = attCells (x.ats ++ [spareA]) from (attCells_snoc _ _).symm] at hO4
      have hAr := ARow.of_own hO4 hlt4
      have hsp := World.ownsRow.cells hO4 (g := ga) rfl (x.ats.length * 3) _ (attCells_get _ x.ats.length spareA (by simp) 0 (by decide))
      rw [addr0] at hsp
      have hnew : AGood ((w4.setCell ⟨wr.heap.size, 2, none⟩ (.slice (some ⟨ga, 0, none⟩) x.ats.length capa)).alloc (elO x (.slice (some ⟨ga, 0, none⟩) x.ats.length capa))) w.heap.size u3.ownBlock x (.slice (some ⟨ga, 0, none⟩) x.ats.length capa) := by
        have hga := own_ge hO4 ga rfl
        have hsz5 : ((w4.setCell ⟨wr.heap.size, 2, none⟩ (.slice (some ⟨ga, 0, none⟩) x.ats.length capa)).alloc (elO x (.slice (some ⟨ga, 0, none⟩) x.ats.length capa))).heap.size = w4.heap.size + 1 := by simp [World.setCell]
        refine ⟨ga, capa, rfl, hcap, by have := hB.size; omega, by omega, fun e => ?_, ⟨fun i t ht => ?_⟩, (hX5 _).trans hsp⟩
        · have := hO.lt ga e.symm; omega
        · obtain ⟨g1, o1, e1, hgl, r0, r1, r2⟩ := hAr.c i t ht
          cases e1
          exact ⟨ga, 0, rfl, by omega, (hX5 _).trans r0, (hX5 _).trans r1, (hX5 _).trans r2⟩
      have hmem : ∀ y ∈ ps ++ [(x, Value.slice (some ⟨ga, 0, none⟩) x.ats.length capa)], AGood w6 w.heap.size (some gn) y.1 y.2 := by
        intro y hy
        rcases List.mem_append.1 hy with hy | hy
        · exact ((hG y hy).below hB5).grown hgr6 hat6
        · obtain rfl := List.mem_singleton.1 hy
          exact hnew.grown hgr6 hat6
      have hB6 : Below w.heap.size w w6 := hB.trans ((hB5.mono hB.size).trans ((Below.refl _ _).grown hgr6 (Nat.le_trans hB.size hB5.size) (own_ge hO)))
      have htk : (ps ++ [(x, Value.slice (some ⟨ga, 0, none⟩) x.ats.length capa)]).map (·.1) = es.take (k + 1) := by
        rw [List.map_append, hps, List.take_add_one, hx]; rfl
      rw [show elCells ps ++ elC x (.slice (some ⟨ga, 0, none⟩) x.ats.length capa) = elCells (ps ++ [(x, .slice (some ⟨ga, 0, none⟩) x.ats.length capa)]) from (elCells_snoc ps (x, _)).symm] at hO6
      go_roundw
      case rel => exact ⟨k + 1, _, by omega, by go_num, htk, hO6, hmem, hB6⟩
      case measure => simp [RowKit.intOf]; omega
    · obtain rfl : k = es.length := by omega
      have F1 : Hid (1 = 1) := rfl
      have hb1 : Below wr.heap.size wr (wr.alloc (.cells #[.int .i64 0, .string spareS, .slice none 0 0, .string ⟨#[]⟩, .int .i64 0] 32)) := (Below.refl _ _).alloc (Nat.le_refl _) _
      have hO1 := ownsRow_below hO hb1
      have hN2 : ∀ j u, (elC ⟨0, spareS, [], ⟨#[]⟩, 0⟩ (.slice none 0 0))[j]? = some u → (wr.alloc (.cells #[.int .i64 0, .string spareS, .slice none 0 0, .string ⟨#[]⟩, .int .i64 0] 32)).cell? ((⟨wr.heap.size, 0, none⟩ : Addr).add j) = some u := World.news_of_block (thn wr _)
      go_wp2_with (at_builtin; clear F1; go_must (refine wpList_append_lies _ rfl _ _ 22 rfl w.heap.size 32 iE zEl 5 72 Try.underlying22 hiE hzE hsE hbE rfl (by decide) _ es.length (elCells ps) rfl hO1 ⟨wr.heap.size, 0, none⟩ 1 1 (elC ⟨0, spareS, [], ⟨#[]⟩, 0⟩ (.slice none 0 0)) rfl rfl hN2 (elC_one _ _ _ _) (by decide) (by simp only [maxLen]; omega) (by omega) (Nat.le_trans hB.size hb1.size) _ rfl ?_); intro gn capn w6 hO6 hgr6 hat6 hlt6; have hcap := own_cap hO6 (by omega); have hci : (es.length : Int) ≤ capn := (by omega))
      have hG6 : ∀ y ∈ ps, AGood w6 w.heap.size (some gn) y.1 y.2 := fun y hy => ((hG y hy).below hb1).grown hgr6 hat6
      have hB6 : Below w.heap.size w w6 := hB.trans ((hb1.mono hB.size).trans ((Below.refl _ _).grown hgr6 (Nat.le_trans hB.size hb1.size) (own_ge hO)))
      rw [List.take_length] at hps
      have hpl : ps.length = es.length := by rw [← hps, List.length_map]
      have hcl := World.ownsRow.cells hO6 (g := gn) rfl
      rw [show elCells ps ++ elC ⟨0, spareS, [], ⟨#[]⟩, 0⟩ (.slice none 0 0) = elCells (ps ++ [(⟨0, spareS, [], ⟨#[]⟩, 0⟩, .slice none 0 0)]) from (elCells_snoc ps (⟨0, spareS, [], ⟨#[]⟩, 0⟩, _)).symm] at hcl
      have hget : ∀ (i : Nat) (e : El), es[i]? = some e → ∃ av, (e, av) ∈ ps ∧ ∀ j u, j < 5 → (elC e av)[j]? = some u → w6.cell? ⟨gn, i * 5 + j, none⟩ = some u := by
        intro i e he
        rw [← hps, List.getElem?_map] at he
        cases hp : ps[i]? with
        | none => rw [hp] at he; cases he
        | some y =>
          obtain ⟨e', av⟩ := y
          rw [hp] at he
          cases he
          refine ⟨av, List.mem_of_getElem? hp, fun j u hj hu => ?_⟩
          have hp2 : (ps ++ [((⟨0, spareS, [], ⟨#[]⟩, 0⟩ : El), Value.slice none 0 0)])[i]? = some (e', av) := by rw [List.getElem?_append_left (List.getElem?_eq_some_iff.1 hp).1]; exact hp
          have := hcl (i * 5 + j) u ((elCells_get _ i _ hp2 j hj).trans hu)
          rwa [addr0] at this
      have hspr := hcl (es.length * 5 + 1) _ (elCells_get _ es.length (⟨0, spareS, [], ⟨#[]⟩, 0⟩, .slice none 0 0) (by rw [← hpl]; simp) 1 (by decide))
      rw [addr0] at hspr
      go_ret
      refine ⟨gn, capn, rfl, ⟨⟨fun i e he => ?_⟩, hcap, own_ge hO6 gn rfl, hspr, fun i e he => ?_, ?_⟩, hB6⟩
      · obtain ⟨av, hm, hc⟩ := hget i e he
        have hgd : AGood w6 w.heap.size (some gn) e av := hG6 _ hm
        obtain ⟨ga, ca, rfl, h2, h3, h4, h5, h6, h7⟩ := hgd
        exact ⟨gn, 0, _, _, rfl, hlt6, by rw [Nat.zero_add]; exact hc 0 _ (by decide) rfl, by rw [Nat.zero_add]; exact hc 1 _ (by decide) rfl, by rw [Nat.zero_add]; exact hc 2 _ (by decide) rfl, by rw [Nat.zero_add]; exact hc 3 _ (by decide) rfl, by rw [Nat.zero_add]; exact hc 4 _ (by decide) rfl, h6⟩
      · obtain ⟨av, hm, hc⟩ := hget i e he
        have hgd : AGood w6 w.heap.size (some gn) e av := hG6 _ hm
        obtain ⟨ga, ca, rfl, h2, h3, h4, h5, h6, h7⟩ := hgd
        exact ⟨ga, ca, hc 2 _ (by decide) rfl, h2, h4, h7⟩
      · rcases hO6.2 with ⟨e, _⟩ | ⟨g', cap', cur, e, _, hg', _, _, hs', _⟩
        · cases e
        · injection e with e1 e2 e3
          injection e1 with e1
          injection e1 with e1
          subst e1 e3
          exact ⟨cur, hg', hs'⟩
end Go.Proofs.Ytchfphakhmifmaa

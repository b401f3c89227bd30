/- The law XmllexPrints: its walk. -/
import Derived.Test.YtchfphakhmifmaaGreatDoorXB9
import Derived.Test.YtchfphakhmifmaaGreatDoorXScan
namespace Go.Proofs.YtchfphakhmifmaaGreatDoor
open Go.ChangeShapes Go.WideShapes Go.ChangeAt Go.RowKit Go.Shelf Go.Lib

def itC (t : IT) : List Value := [.int .i64 t.k, .string t.nm, .string t.vl, .int .i64 t.p]
def itCells (ts : List IT) : List Value := ts.flatMap itC
theorem itCells_length (ts : List IT) : (itCells ts).length = ts.length * 4 := by
  induction ts with
  | nil => rfl
  | cons t ts ih =>
    unfold itCells at ih ⊢
    rw [List.flatMap_cons, List.length_append, ih, List.length_cons]
    show 4 + _ = _
    omega
theorem itCells_one (ts : List IT) : ∀ u ∈ itCells ts, u.oneCell' = true := by
  intro u hu
  obtain ⟨t, _, h⟩ := List.mem_flatMap.1 hu
  simp [itC] at h
  rcases h with rfl | rfl | rfl | rfl <;> rfl
theorem itCells_get : ∀ (ts : List IT) (i : Nat) (t : IT), ts[i]? = some t → ∀ j, j < 4 → (itCells ts)[i * 4 + j]? = (itC t)[j]?
  | [], _, _, h, _, _ => by cases h
  | a :: r, 0, t, h, j, hj => by
    cases h
    unfold itCells
    rw [List.flatMap_cons, List.getElem?_append_left (by simp [itC]; omega), Nat.zero_mul, Nat.zero_add]
  | a :: r, i + 1, t, h, j, hj => by
    have ih := itCells_get r i t h j hj
    unfold itCells at ih ⊢
    have hl : (itC a).length = 4 := rfl
    rw [List.flatMap_cons, List.getElem?_append_right (by omega), hl, ← ih]
    congr 1
    omega
theorem addrI (g o k : Nat) : (⟨g, o, none⟩ : Addr).add k = ⟨g, o + k, none⟩ := by unfold Addr.add; split <;> simp_all
theorem IRow.news {w : World} {ad : Addr} {H : Nat} {ts : List IT} (h : IRow w (some ad) H ts) : ∀ j u, (itCells ts)[j]? = some u → w.cell? (ad.add j) = some u := by
  intro j u hu
  have hj : j < ts.length * 4 := by rw [← itCells_length]; exact (List.getElem?_eq_some_iff.1 hu).1
  have hi : j / 4 < ts.length := by omega
  obtain ⟨g, o, e, _, h0, h1, h2, h3⟩ := h.c (j / 4) ts[j / 4] (List.getElem?_eq_getElem hi)
  cases e
  have hg := itCells_get ts (j / 4) ts[j / 4] (List.getElem?_eq_getElem hi) (j % 4) (by omega)
  rw [show j / 4 * 4 + j % 4 = j by omega, hu] at hg
  rw [addrI]
  have h4 : j % 4 = 0 ∨ j % 4 = 1 ∨ j % 4 = 2 ∨ j % 4 = 3 := by omega
  rcases h4 with h4 | h4 | h4 | h4
  · rw [h4] at hg
    cases Option.some.inj hg
    rw [show o + j = o + j / 4 * 4 by omega]; exact h0
  · rw [h4] at hg
    cases Option.some.inj hg
    rw [show o + j = o + j / 4 * 4 + 1 by omega]; exact h1
  · rw [h4] at hg
    cases Option.some.inj hg
    rw [show o + j = o + j / 4 * 4 + 2 by omega]; exact h2
  · rw [h4] at hg
    cases Option.some.inj hg
    rw [show o + j = o + j / 4 * 4 + 3 by omega]; exact h3
theorem IRow.below' {w w' : World} {pp : Option Addr} {H : Nat} {ts : List IT} (h : IRow w pp H ts) (hb : Below w.heap.size w w') : IRow w' pp H ts :=
  ⟨fun i t ht => by
    obtain ⟨g, o, e, hg, h0, h1, h2, h3⟩ := h.c i t ht
    have hg2 : g < w.heap.size := World.block_lt_of_cell? w ⟨g, _, none⟩ h0
    exact ⟨g, o, e, hg, (hb.cell (p := ⟨g, _, none⟩) hg2).trans h0, (hb.cell (p := ⟨g, _, none⟩) hg2).trans h1, (hb.cell (p := ⟨g, _, none⟩) hg2).trans h2, (hb.cell (p := ⟨g, _, none⟩) hg2).trans h3⟩⟩
theorem IRow.up {w w' : World} {pp : Option Addr} {H : Nat} {ts : List IT} (h : IRow w pp H ts) (hb : Below w.heap.size w w') : IRow w' pp w'.heap.size ts :=
  ⟨fun i t ht => by
    obtain ⟨g, o, e, hg, h0, h1⟩ := (h.below' hb).c i t ht
    exact ⟨g, o, e, World.block_lt_of_cell? w' ⟨g, _, none⟩ h0, h0, h1⟩⟩
theorem IRow.of_own {w : World} {base g cap H : Nat} {al bl : List IT} {n : Nat} (h : w.ownsRow base 39 4 (.slice (some ⟨g, 0, none⟩) n cap) n (itCells (al ++ bl))) (hg : g < H) : IRow w (some ⟨g, 0, none⟩) H al :=
  ⟨fun i t ht => by
    have hti : (al ++ bl)[i]? = some t := by rw [List.getElem?_append_left (List.getElem?_eq_some_iff.1 ht).1]; exact ht
    have hc := World.ownsRow.cells h (g := g) rfl
    have c0 := hc (i * 4) _ (itCells_get _ i t hti 0 (by decide))
    have c1 := hc (i * 4 + 1) _ (itCells_get _ i t hti 1 (by decide))
    have c2 := hc (i * 4 + 2) _ (itCells_get _ i t hti 2 (by decide))
    have c3 := hc (i * 4 + 3) _ (itCells_get _ i t hti 3 (by decide))
    rw [addrI] at c0 c1 c2 c3
    exact ⟨g, 0, rfl, hg, c0, c1, c2, c3⟩⟩
abbrev bMK : ByteArray := ⟨#[109, 97, 114, 107]⟩
def mkI : IT := ⟨0, bMK, E0, 0⟩
theorem tinfoI : ∃ i, Tryz.prog.info? 39 = some i ∧ i.zero = some zTok ∧ i.size = 4 ∧ i.bytes = 48 := by
  obtain ⟨i, hi, hz⟩ := Option.map_eq_some_iff.1 infoT
  simp only [Prod.mk.injEq] at hz
  exact ⟨i, hi, hz.1, hz.2.1, hz.2.2⟩
/-- An append onto a list of one's own. -/
theorem it_ap {W : World} {base : Nat} {v : Value} {al bl : List IT} {ad : Addr} {H : Nat} (cb : Nat) (own : W.ownsRow base 39 4 v al.length (itCells al)) (hB : IRow W (some ad) H bl) (hl : al.length + bl.length ≤ 2000000) (hb : base ≤ W.heap.size) :
    ∃ v' w', (∀ ty, (Builtin.append_ #[31, 31] ty #[v, .slice (some ad) bl.length cb]).run Tryz.prog W = .ok v' w') ∧ (w'.ownsRow base 39 4 v' (al.length + bl.length) (itCells (al ++ bl)) ∧ Below base W w') := by
  obtain ⟨i0, hi, hz, hs, hby⟩ := tinfoI
  have hr := fun ty => run_append_own_at (P := Tryz.prog) W base 31 ty 39 i0 zTok 4 48 Tryz.underlying31 hi hz hs hby rfl (by decide) v al.length (itCells al) own ad bl.length cb (itCells bl) (itCells_length bl) hB.news (itCells_one bl) (by simp only [maxLen]; omega) (by omega) hb
  obtain ⟨v', w', h1, h2, h3, _⟩ := hr 0
  have hob : ∀ g, v.ownBlock = some g → base ≤ g := fun g hg => by
    rcases own.2 with ⟨rfl, _⟩ | ⟨g', cap, cur, rfl, hb', _⟩
    · cases hg
    · cases hg; exact hb'
  refine ⟨v', w', fun ty => ?_, by unfold itCells at h2 ⊢; rw [List.flatMap_append]; exact h2, ⟨h3.os, h3.tape, h3.output, h3.size, fun k hk => h3.block k (by omega) (fun e => by have := hob k e.symm; omega)⟩⟩
  have e : (Builtin.append_ #[31, 31] ty #[v, .slice (some ad) bl.length cb]) = (Builtin.append_ #[31, 31] 0 #[v, .slice (some ad) bl.length cb]) := rfl
  rw [e]
  exact h1
/-- 'append([]api.XTok{}, ts...)'. -/
theorem it_cp {W : World} {pp : Option Addr} {H : Nat} {ts : List IT} (ca : Nat) (hA : IRow W pp H ts) (hl : ts.length ≤ 1048576) :
    ∃ v' w', (∀ ty, (Builtin.append_ #[31, 31] ty #[.slice (some ⟨W.heap.size, 0, none⟩) 0 0, .slice pp ts.length ca]).run Tryz.prog (W.alloc (.cells #[] 39)) = .ok v' w') ∧ (w'.ownsRow W.heap.size 39 4 v' ts.length (itCells ts) ∧ Below W.heap.size (W.alloc (.cells #[] 39)) w') := by
  have own : (W.alloc (.cells #[] 39)).ownsRow W.heap.size 39 4 (.slice (some ⟨W.heap.size, 0, none⟩) 0 0) 0 (itCells []) :=
    ⟨rfl, .inr ⟨W.heap.size, 0, #[], rfl, Nat.le_refl _, heap_new W _, Nat.le_refl _, by decide, rfl, rfl⟩⟩
  cases pp with
  | none =>
    have h0 : ts = [] := by
      cases ts with
      | nil => rfl
      | cons a r =>
        obtain ⟨g, o, e, _⟩ := hA.c 0 a rfl
        cases e
    subst h0
    obtain ⟨i0, hi, hz, hs, hby⟩ := tinfoI
    refine ⟨.slice (some ⟨W.heap.size, 0, none⟩) 0 0, _, fun ty => ?_, own, Below.refl _ _⟩
    have S := Src.ofNil (P := Tryz.prog) (size := i0.size) (W.alloc (.cells #[] 39)) Tryz.underlying31 ca
    have hln : ∀ w' : World, (Builtin.lenOf (.slice none 0 ca)).run Tryz.prog w' = .ok 0 w' := S.len
    have hcl : (Builtin.firstCells i0.size 0 (.slice none 0 ca)).run Tryz.prog (W.alloc (.cells #[] 39)) = .ok #[] (W.alloc (.cells #[] 39)) := S.cells
    simp only [List.length_nil]
    simp [Builtin.append_, run_underlying Tryz.underlying31, sizeOf, typeInfo, hi, hln, hcl, -World.alloc_eq]
    rfl
  | some ad =>
    have := it_ap (al := []) ca own (hA.below' (bel1 W _)) (by simp; omega) (by rw [World.size_alloc]; omega)
    simpa using this
theorem IRow.lift {w w' : World} {pp : Option Addr} {ts : List IT} (h : IRow w' pp w.heap.size ts) (hb : Below w.heap.size w w') : IRow w' pp w'.heap.size ts :=
  ⟨fun i t ht => by
    obtain ⟨g, o, e, hg, h0⟩ := h.c i t ht
    exact ⟨g, o, e, Nat.lt_of_lt_of_le hg hb.size, h0⟩⟩
/-- The pieces, and the mark behind them, in a list of one's own. -/
structure MQ (w : World) (ts : List IT) (G cap : Nat) (W : World) : Prop where
  bel : Below w.heap.size w W
  row : IRow W (some ⟨G, 0, none⟩) W.heap.size ts
  mark : W.cell? ⟨G, ts.length * 4 + 1, none⟩ = some (.string bMK)
  cap : ts.length + 1 ≤ cap
theorem MQ.go {w : World} {ts : List IT} {G cap : Nat} {W W' : World} (h : MQ w ts G cap W) (hb : Below W.heap.size W W') : MQ w ts G cap W' :=
  ⟨h.bel.trans (hb.mono h.bel.size), h.row.up hb, (hb.cell (p := ⟨G, _, none⟩) (World.block_lt_of_cell? W ⟨G, _, none⟩ h.mark)).trans h.mark, h.cap⟩
theorem mark_on {w w1 w3 : World} {ts : List IT} {v3 : Value} (hl : ts.length ≤ 1048576) (hb1 : Below w.heap.size w w1) (hown3 : w3.ownsRow w1.heap.size 39 4 v3 ts.length (itCells ts)) (hbel3 : Below w1.heap.size (w1.alloc (.cells #[] 39)) w3) :
    ∃ G cap w5, (∀ ty, (Builtin.append_ #[31, 31] ty #[v3, .slice (some ⟨w3.heap.size, 0, none⟩) 1 1]).run Tryz.prog (w3.alloc (.cells #[.int .i64 0, .string bMK, .string E0, .int .i64 0] 39)) = .ok (.slice (some ⟨G, 0, none⟩) (ts.length + 1) cap) w5) ∧ Hid (MQ w ts G cap w5) := by
  have hz := hbel3.size
  rw [World.size_alloc] at hz
  have hz1 := hb1.size
  have b3 := bel1 w3 (.cells #[.int .i64 0, .string bMK, .string E0, .int .i64 0] 39)
  have hTK := TK.of (heap_new w3 (.cells #[.int .i64 0, .string bMK, .string E0, .int .i64 0] 39))
  have own : (w3.alloc (.cells #[.int .i64 0, .string bMK, .string E0, .int .i64 0] 39)).ownsRow w1.heap.size 39 4 v3 ts.length (itCells ts) := by
    refine World.ownsRow.kept (row := none) hown3 ⟨b3.os, b3.tape, b3.output, b3.size, fun k hk _ => b3.block k hk⟩ ?_
    cases hv : v3.ownBlock <;> simp
  have hB : IRow (w3.alloc (.cells #[.int .i64 0, .string bMK, .string E0, .int .i64 0] 39)) (some ⟨w3.heap.size, 0, none⟩) (w3.heap.size + 1) [mkI] :=
    ⟨fun i t ht => by
      cases i with
      | succ i => cases ht
      | zero => cases ht; exact ⟨_, 0, rfl, Nat.lt_succ_self _, hTK.c0, hTK.c1, hTK.c2, hTK.c3⟩⟩
  obtain ⟨v5, w5, hrun5, hown5, hbel5⟩ := it_ap (bl := [mkI]) 1 own hB (by simp; omega) (by rw [World.size_alloc]; omega)
  rcases hown5.2 with ⟨_, h0⟩ | ⟨G, cap, cur, rfl, hb, hg, hn, hm, hs, hx⟩
  · simp at h0
  · have hG : G < w5.heap.size := (Array.getElem?_eq_some_iff.1 hg).1
    refine ⟨G, cap, w5, hrun5, ?_, IRow.of_own hown5 hG, ?_, hn⟩
    · exact hb1.trans (((bel1 w1 _).mono hz1).trans ((hbel3.mono hz1).trans ((b3.mono (by omega)).trans (hbel5.mono hz1))))
    · have hc := World.ownsRow.cells hown5 (g := G) rfl (ts.length * 4 + 1) _ (itCells_get (ts ++ [mkI]) ts.length mkI (by simp) 1 (by decide))
      rw [addrI, Nat.zero_add] at hc
      exact hc
set_option maxRecDepth 100000 in
set_option maxHeartbeats 8000000 in
theorem Prints_any (pp : Option Addr) (cp : Nat) (ts : List IT) (w : World) (hr : IRow w pp w.heap.size ts) (hl : ts.length ≤ 1048576) (hok : ∀ t ∈ ts, t.nm.size ≤ 1048576 ∧ t.vl.size ≤ 1048576) (hE : Env w) (hS : ShpTab w) (h7 : 7 ≤ w.heap.size) :
    Calls Tryz.prog 6 #[.slice pp ts.length cp] w fun e w' => e = .returned (.bool true) ∧ Below w.heap.size w w' := by
  have cR := rPrint pp cp ts w hr hl hok
  have cP := fun pp cp w hr hE hS h7 => Print_any pp cp ts w hr (by omega) (fun t ht => ⟨by have := (hok t ht).1; omega, by have := (hok t ht).2; omega⟩) hE hS h7
  have hss := fun pa ca w ha hb => same_any pa pp ca cp w.heap.size w.heap.size ts ts true w ha hb (by omega)
  simp only [sameL_refl] at hss
  generalize prZ ts 0 (-1) [] = Z at cR cP
  obtain ⟨Zs, Ze, Zn⟩ := Z
  simp only at cR cP
  generalize sOf Zs = S at *
  have HR := Hid.mk' hr
  have HE := Hid.mk' hE
  have HS := Hid.mk' hS
  have HO := Hid.mk' hok
  have eS : (S.toList == S.toList) = true := by simp
  clear hr hE hS hok
  go_enter Tryz.func6, Tryz.ntmps6
  go_wp2_with (first
    | (go_at_call 22; refine cR.mono ?_; clear cR; rintro e w1 ⟨rfl, hb1⟩; obtain ⟨v3, w3, hrun, hown3, hbel3⟩ := it_cp cp (HR.out.up hb1) hl; have F1 : Hid (1 = 1) := rfl)
    | (at_builtin; clear F1; refine (wpList_append_ex (by rfl) _ _ _ _ (by rfl) _ _ (by rfl) (by rfl) (fun a b => a = v3 ∧ b = w3) ⟨v3, w3, hrun, rfl, rfl⟩ ?_); clear hrun; rintro _ _ ⟨rfl, rfl⟩; obtain ⟨G, cap, w5, hrun5, HQ⟩ := mark_on hl hb1 hown3 hbel3; have F2 : Hid (2 = 2) := rfl)
    | (at_builtin; clear F2; refine (wpList_append_ex (by rfl) _ _ _ _ (by rfl) _ _ (by rfl) (by rfl) (fun a b => a = .slice (some ⟨G, 0, none⟩) (ts.length + 1) cap ∧ b = w5) ⟨_, w5, hrun5, rfl, rfl⟩ ?_); clear hrun5; rintro _ _ ⟨rfl, rfl⟩; have hc5 := HQ.out.cap; have HB := Hid.mk' HQ.out.bel)
    | (go_at_call 18; refine (cP _ _ _ HQ.out.row (HE.out.below HB.out h7) (HS.out.below HB.out h7) (Nat.le_trans h7 HB.out.size)).mono ?_; clear cP; rintro e w6 ⟨rfl, hb6⟩; replace HQ := Hid.mk' (HQ.out.go hb6); replace HB := Hid.mk' HQ.out.bel)
    | (go_at_call 17; refine (reads_any _ (HE.out.below HB.out h7) (HS.out.below HB.out h7) (Nat.le_trans h7 HB.out.size)).mono ?_; rintro e w7 ⟨rfl, hb7⟩; replace HQ := Hid.mk' (HQ.out.go hb7); replace HB := Hid.mk' HQ.out.bel)
    | (go_at_call 20; refine (hss _ _ _ HQ.out.row ((HR.out.below' HB.out).lift HB.out)).mono ?_; clear hss; rintro e w8 ⟨rfl, hb8⟩; replace HQ := Hid.mk' (HQ.out.go hb8); replace HB := Hid.mk' HQ.out.bel; have m1 := HQ.out.mark))
  go_ret
  exact ⟨rfl, HB.out⟩
end Go.Proofs.YtchfphakhmifmaaGreatDoor

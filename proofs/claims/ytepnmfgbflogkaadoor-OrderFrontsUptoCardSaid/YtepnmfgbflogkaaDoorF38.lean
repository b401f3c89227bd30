/- FrR. -/
import Derived.Test.YtepnmfgbflogkaaDoorF37
namespace Go.Proofs.YtepnmfgbflogkaaDoor
open Go.ChangeShapes Go.WideShapes Go.ChangeAt Go.RowKit Go.Shelf Go.Maps

theorem lvF_snoc (l : List Tk) : ∀ (m a : Nat), lvF l a (m + 1) = lvF l a m ++ (if (l[a + m]?).any lvB = true then [a + m] else [])
  | 0, a => by simp [lvF]
  | m + 1, a => by
    rw [lvF, lvF_snoc l m (a + 1), lvF, List.append_assoc, show a + 1 + m = a + (m + 1) by omega]
/-- Has a leaf been met, from i on up to k? -/
def metB (l : List Tk) (u : Tk) (i k : Nat) : Bool := !decide (u.pres = 2) && !(lvF l (i + 1) (k - (i + 1))).isEmpty
theorem met_zero (l : List Tk) (u : Tk) (i : Nat) : metB l u i (i + 1) = false := by
  unfold metB
  rw [Nat.sub_self, lvF]
  simp
theorem met_succ {l : List Tk} {u y : Tk} {i k : Nat} (hk : i + 1 ≤ k) (hy : l[k]? = some y) : metB l u i (k + 1) = (metB l u i k || (!decide (u.pres = 2) && lvB y)) := by
  unfold metB
  rw [show k + 1 - (i + 1) = (k - (i + 1)) + 1 by omega, lvF_snoc, show i + 1 + (k - (i + 1)) = k by omega, hy]
  cases h1 : lvB y <;> cases h2 : decide (u.pres = 2) <;> simp [h1]
theorem met_end {l : List Tk} {u : Tk} {i m : Nat} (hu : l[i]? = some u) (hm : u.pair = (m : Int)) : metB l u i m = calledB l i := by
  unfold metB calledB
  simp only [hu, hm, Int.toNat_natCast]
/-- What run does at block p. -/
def RunC (f : Fm) (pp : Option Addr) (cp : Nat) (L : List Int) (pL : Option Addr) (cL cb T d p : Nat) : Prop := ∀ (w : World) (v : Value) (out : List Oc) (at_ : Nat), TkL w pp cb f.toks → PRow w pL cb L → w.heap[cb]? = some (chO pL L.length cL (at_ : Int)) → COwn w (cb + 1) v out → at_ ≤ out.length → Ph T out.length + T ≤ 10000000000 →
  Calls Tryd.prog 13 #[fmV f pp cp, .int .i64 (p : Int), .pointer (some ⟨cb, 0, none⟩), v] w fun r w' => ∃ (v' : Value) (cs : List Oc) (at' : Nat), r = .returned v' ∧ FW cb w v w' v' ∧ w'.heap[cb]? = some (chO pL L.length cL (at' : Int)) ∧ COwn w' (cb + 1) v' (out ++ cs) ∧ RunD f.toks d p cs ∧ Ph T (out ++ cs).length ≤ Ph T out.length + T ∧ tot cs + ph (out ++ cs).length ≤ ph out.length ∧ at' ≤ (out ++ cs).length + 1
/-- What the first loop has, with i the next to be looked at. -/
structure L1 (l : List Tk) (W : World) (ks ks1 r : List Nat) (i n : Nat) (vs vr : Value) (X : World) : Prop where
  k : ks = ks1 ++ r
  c : Chn l i r n
  s : SOwn X W.heap.size vs ((ks1.filter (fldF l)).map (nmAt l))
  n : NRow X W.heap.size vr (ks1.filter (rowF l))
  d : ∀ k, vs.ownBlock = some k → vr.ownBlock ≠ some k
  b : Below W.heap.size W X
theorem SOwn.shape {w : World} {base : Nat} {v : Value} {ss : List ByteArray} (h : SOwn w base v ss) : ∃ pp cp, v = .slice pp ss.length cp ∧ ∀ (i : Nat) (s : ByteArray), ss[i]? = some s → ∃ g, pp = some ⟨g, 0, none⟩ ∧ w.cell? ⟨g, i, none⟩ = some (.string s) := by
  rcases h.2 with ⟨hv, hn⟩ | ⟨g, cap, cur, hv, _, hg, hc, _, hs, ht⟩
  · refine ⟨none, 0, by rw [hv, hn], fun i n hi => ?_⟩
    rw [List.eq_nil_of_length_eq_zero hn] at hi
    cases hi
  · refine ⟨_, _, hv, fun i n hi => ⟨g, rfl, ?_⟩⟩
    have hi2 : (ss.map Value.string)[i]? = some (.string n) := by rw [List.getElem?_map, hi]; rfl
    rw [← ht, List.getElem?_take] at hi2
    split at hi2
    · rw [cell_at hg, ← hi2, Array.getElem?_toList]
    · cases hi2
theorem SOwn.get {w : World} {base : Nat} {pp : Option Addr} {m cp : Nat} {ss : List ByteArray} (h : SOwn w base (.slice pp m cp) ss) {i : Nat} {s : ByteArray} (hi : ss[i]? = some s) : ∃ g, pp = some ⟨g, 0, none⟩ ∧ w.cell? ⟨g, i, none⟩ = some (.string s) := by
  obtain ⟨pp', cp', e, h2⟩ := h.shape
  injection e with e1 e2 e3
  subst e1
  exact h2 i s hi
theorem NRow.get {w : World} {base : Nat} {pp : Option Addr} {m cp : Nat} {ns : List Nat} (h : NRow w base (.slice pp m cp) ns) {i n : Nat} (hi : ns[i]? = some n) : ∃ g, pp = some ⟨g, 0, none⟩ ∧ w.cell? ⟨g, i, none⟩ = some (.int .i64 (n : Int)) := by
  obtain ⟨pp', cp', e, h2⟩ := h.shape
  injection e with e1 e2 e3
  subst e1
  obtain ⟨g, e, -, hc⟩ := h2 i n hi
  exact ⟨g, e, hc⟩
theorem COwn.shp {w : World} {base : Nat} {v : Value} {cs : List Oc} (h : COwn w base v cs) : ∃ pp cp, v = .slice pp cs.length cp := by
  rcases h.2 with ⟨hv, hn⟩ | ⟨g, cap, cur, hv, _⟩
  · exact ⟨none, 0, by rw [hv, hn]⟩
  · exact ⟨_, _, hv⟩
/-- The call of an entry. -/
abbrev nxC : Oc := ⟨2, ⟨#[]⟩, 0⟩
theorem flat_snoc (es : List (List Oc)) (e : List Oc) : (es ++ [e]).flatMap (fun e => nxC :: e) = es.flatMap (fun e => nxC :: e) ++ nxC :: e := by
  rw [List.flatMap_append]
  simp
/-- Behind the first loop: the list that grows, the choices. -/
structure RJ (cb : Nat) (L : List Int) (pL : Option Addr) (cL : Nat) (w3 : World) (v0 : Value) (X : World) (vc : Value) (o : List Oc) (a : Nat) : Prop where
  fw : FW cb w3 v0 X vc
  ch : X.heap[cb]? = some (chO pL L.length cL (a : Int))
  ow : COwn X (cb + 1) vc o
theorem RJ.below {cb : Nat} {L : List Int} {pL : Option Addr} {cL : Nat} {w3 : World} {v0 : Value} {X X' : World} {vc : Value} {o : List Oc} {a : Nat} (h : RJ cb L pL cL w3 v0 X vc o a) (hb : Below X.heap.size X X') : RJ cb L pL cL w3 v0 X' vc o a :=
  ⟨h.fw.trans (FW.below hb), (hb.block _ (Array.getElem?_eq_some_iff.1 h.ch).1).trans h.ch, own_keep h.ow hb⟩
theorem RJ.next {cb : Nat} {L : List Int} {pL : Option Addr} {cL : Nat} {w3 : World} {v0 : Value} {X X' : World} {vc : Value} {o : List Oc} {a a' : Nat} (h : RJ cb L pL cL w3 v0 X vc o a) (hk : Kb [cb] X X') (hc : X'.heap[cb]? = some (chO pL L.length cL (a' : Int))) : RJ cb L pL cL w3 v0 X' vc o a' :=
  ⟨h.fw.trans (FW.kb hk), hc, own_keepP h.ow fun k hk' => hk.block k (World.ownsRow.lt h.ow k hk').2 (by have := (World.ownsRow.lt h.ow k hk').1; simp; omega)⟩
theorem RJ.app {cb : Nat} {L : List Int} {pL : Option Addr} {cL : Nat} {w3 : World} {v0 : Value} {X X' : World} {vc v' : Value} {o : List Oc} {a : Nat} {c : Oc} (h : RJ cb L pL cL w3 v0 X vc o a) (hq : COwn X' (cb + 1) v' (o ++ [c]) ∧ Below (cb + 1) X X' ∧ (∀ j, j < X.heap.size → vc.ownBlock ≠ some j → X'.heap[j]? = X.heap[j]?) ∧ ∀ k, v'.ownBlock = some k → vc.ownBlock = some k ∨ X.heap.size ≤ k) : RJ cb L pL cL w3 v0 X' v' (o ++ [c]) a :=
  ⟨h.fw.trans ⟨⟨hq.2.1.os, hq.2.1.tape, hq.2.1.output, hq.2.1.size, fun k hk hn => hq.2.2.1 k hk fun e => hn (.inr e)⟩, hq.2.2.2⟩, (hq.2.1.block cb (Nat.lt_succ_self _)).trans h.ch, hq.1⟩
/-- The row's calls, up to the j-th. -/
def J4 (l : List Tk) (cb : Nat) (L : List Int) (pL : Option Addr) (cL : Nat) (w3 : World) (v : Value) (T d p : Nat) (out fs : List Oc) (j : Nat) (vc : Value) (X : World) : Prop := ∃ (rs : List Oc) (a : Nat), RJ cb L pL cL w3 v X vc ((out ++ fs) ++ rs) a ∧ a ≤ ((out ++ fs) ++ rs).length + 1 ∧ RowR l (RunD l d) ((rowZ l p).take j) rs ∧ Ph T ((out ++ fs) ++ rs).length ≤ Ph T out.length + 3 + j ∧ tot rs + ph ((out ++ fs) ++ rs).length ≤ ph out.length
/-- A group's entries, up to the k-th. -/
def J5 (l : List Tk) (cb : Nat) (L : List Int) (pL : Option Addr) (cL : Nat) (w3 : World) (v : Value) (T d q : Nat) (o1 : List Oc) (on k : Nat) (vc : Value) (X : World) : Prop := ∃ (es : List (List Oc)) (a : Nat), es.length = k ∧ RJ cb L pL cL w3 v X vc (o1 ++ es.flatMap (fun e => nxC :: e)) a ∧ a ≤ (o1 ++ es.flatMap (fun e => nxC :: e)).length + 1 ∧ (∀ e ∈ es, RunD l d q e) ∧ Ph T (o1 ++ es.flatMap (fun e => nxC :: e)).length ≤ Ph T (on + 1) + k * (T + 1) ∧ tot (es.flatMap (fun e => nxC :: e)) + ph (o1 ++ es.flatMap (fun e => nxC :: e)).length ≤ ph (on + 1)
theorem chn_le {l : List Tk} : ∀ {ks : List Nat} {a n : Nat}, Chn l a ks n → (∀ j ∈ ks, j < n) → a ≤ n
  | [], _, _, h, _ => Nat.le_of_eq h
  | k :: _, _, _, h, hn => by
    have h1 := h.1
    have h2 := hn k (List.mem_cons_self ..)
    omega
theorem chn_mem {l : List Tk} : ∀ {ks : List Nat} {a n : Nat}, Chn l a ks n → (∀ j ∈ ks, j < n) → ∀ k ∈ ks, ∃ u m, l[k]? = some u ∧ u.pair = ((m : Nat) : Int) ∧ m < n
  | [], _, _, _, _, k, hk => by cases hk
  | b :: r, a, n, ⟨e, t, m, h1, h2, h3⟩, hn, k, hk => by
    have hr : ∀ j ∈ r, j < n := fun j hj => hn j (List.mem_cons_of_mem _ hj)
    rcases List.mem_cons.1 hk with rfl | hk
    · exact ⟨t, m, h1, h2, chn_le h3 hr⟩
    · exact chn_mem h3 hr k hk
set_option maxRecDepth 20000 in
set_option maxHeartbeats 8000000 in
theorem run_step (f : Fm) (hz : chkZ f = none) (pp : Option Addr) (cp : Nat) (L : List Int) (pL : Option Addr) (cL cb T d : Nat) (hT : f.toks.length + 3 ≤ T) (hTb : T ≤ 2000000)
    (IH : Hid (∀ (q m : Nat) (u : Tk) (ks : List Nat), Pb f.toks q m u ks → u.op = 0 ∨ u.op = 4 → m - q ≤ d → RunC f pp cp L pL cL cb T d q))
    (p n : Nat) (t : Tk) (ks : List Nat) (hP : Pb f.toks p n t ks) (_ho : t.op = 0 ∨ t.op = 4) (hd : n - p ≤ d + 1) : RunC f pp cp L pL cL cb T (d + 1) p := by
  intro w v out at_ tl pl hch how hat hph
  have hcb := (Array.getElem?_eq_some_iff.1 hch).1
  have hF := fm_new w f pp cp
  have HB : Below w.heap.size w (w.alloc (fmO f pp cp)) := nbel _ _
  have HS : (w.alloc (fmO f pp cp)).heap.size = w.heap.size + 1 := World.size_alloc _ _
  generalize hW : w.alloc (fmO f pp cp) = W at hF HB HS
  simp only [fmO] at hW
  have F' : Hid (∀ X, Below W.heap.size W X → X.cell? ⟨w.heap.size, 12, none⟩ = some (.slice pp f.toks.length cp)) := ⟨fun X hb => (hF.below (by omega) hb).c12⟩
  have FM : Hid (∀ X, Below W.heap.size W X → FmC X w.heap.size 0 f pp cp) := ⟨fun X hb => hF.below (by omega) hb⟩
  have TL : Hid (∀ X, Below W.heap.size W X → TkL X pp cb f.toks) := ⟨fun X hb => tl.below ((HB.mono (by omega)).trans (hb.mono (by omega)))⟩
  have hpn := hP.bg.bn
  have hnl := hP.bg.nl
  have hpl : (p : Int) < f.toks.length := by omega
  have hll : Hid (f.toks.length ≤ 2000000) := ⟨by omega⟩
  obtain ⟨gt, ot, pc, cc, hpp, hgt, hTt, -⟩ := (TL.out W (Below.refl _ _)).at hP.bg.et
  subst hpp
  have T20 : Hid (∀ X, Below W.heap.size W X → X.cell? ⟨gt, ot + p * 21 + 20, none⟩ = some (.int .i64 (n : Int))) := ⟨fun X hb => by
    have e := (hTt.below (by omega : gt < W.heap.size) hb).c20
    rw [hP.bg.en] at e
    exact e⟩
  replace HB : Hid _ := ⟨HB⟩
  replace HS : Hid _ := ⟨HS⟩
  replace tl : Hid _ := ⟨tl⟩
  replace pl : Hid _ := ⟨pl⟩
  replace hch : Hid _ := ⟨hch⟩
  replace how : Hid _ := ⟨how⟩
  replace hat : Hid _ := ⟨hat⟩
  replace hph : Hid _ := ⟨hph⟩
  clear hF hTt hgt
  go_enter Tryd.func13, Tryd.ntmps13
  go_upto_region 4 with fail
  go_loopw [11, 9, 10] (fun q vs vr wr => ∃ (i : Nat) (ks1 r : List Nat), q = .int .i64 (i : Int) ∧ p + 1 ≤ i ∧ i ≤ n ∧ Hid (L1 f.toks W ks ks1 r i n vs vr wr)) (fun q _ _ _ => n - (RowKit.intOf q).toNat)
  case atStart => exact ⟨p + 1, [], ks, by go_num, Nat.le_refl _, by omega, ⟨rfl, hP.bg.ch, World.ownsRow_nil _ _ _ 1, NRow.nil _ _, fun k h => (by cases h), Below.refl _ _⟩⟩
  case round =>
    obtain ⟨i, ks1, r, rfl, hi1, hi2, hL⟩ := hrel
    have t20 := T20.out wr hL.out.b
    have f12 := F'.out wr hL.out.b
    have hrn : ∀ j ∈ r, j < n := fun j hj => (hP.bg.kn j (by rw [hL.out.k]; exact List.mem_append_right _ hj)).2
    by_cases hlt : i < n
    · obtain ⟨r', rfl⟩ := chn_head hL.out.c hrn hlt
      have hki : i ∈ ks := by rw [hL.out.k]; simp
      have hil : i < f.toks.length := by omega
      obtain ⟨u, hu⟩ : ∃ u, f.toks[i]? = some u := ⟨f.toks[i], List.getElem?_eq_getElem hil⟩
      obtain ⟨hop, mm, hum, hkm, hml⟩ := hP.kop i hki u hu
      obtain ⟨hmn, hC2⟩ := chn_next hL.out.c (fun j hj => hrn j (List.mem_cons_of_mem _ hj)) hu hum
      obtain ⟨_, _, pu, cu, e, hgu, hTu, _, _, hOu⟩ := (TL.out wr hL.out.b).at hu
      cases e
      have lT : Hid _ := ⟨hTu.load⟩
      have sT : Hid _ := ⟨fun z hz => st_new wr z hz u pu cu⟩
      have hX : Hid ((wr.alloc (tkO u pu cu)).heap[wr.heap.size]? = some (tkO u pu cu)) := ⟨heap_al _ _⟩
      have hlti : (i : Int) < n := by omega
      have hill : (i : Int) < f.toks.length := by omega
      have hw2 : IntKind.i64.wrap ((mm : Int) + 1) = (mm : Int) + 1 := by rw [IntKind.wrap_i64]; omega
      have hks2 : Hid (ks = (ks1 ++ [i]) ++ r') := ⟨by rw [hL.out.k]; simp⟩
      have HC2 : Hid _ := ⟨hC2⟩
      have hkl : Hid (ks1.length ≤ 2000000) := ⟨by
        have h3 := rise_length hP.bg.up (fun k hk => (hP.bg.kn k hk).2)
        rw [hL.out.k, List.length_append] at h3
        omega⟩
      have HU : Hid _ := ⟨hu⟩
      have HUM : Hid _ := ⟨hum⟩
      have N20 : Hid (∀ X, Below W.heap.size W X → X.cell? ⟨gt, ot + i * 21 + 20, none⟩ = some (.int .i64 (mm : Int))) := ⟨fun X hb => by
        obtain ⟨_, _, _, _, e3, _, hT3, _⟩ := (TL.out X hb).at HU.out
        cases e3
        have y := hT3.c20
        rw [HUM.out] at y
        exact y⟩
      have b1 := bel1 wr (tkO u pu cu)
      have hL' : Hid (L1 f.toks W ks ks1 (i :: r') i n u9 u10 (wr.alloc (tkO u pu cu))) := ⟨⟨hL.out.k, hL.out.c, own_keep hL.out.s b1, hL.out.n.below b1, hL.out.d, hL.out.b.trans (b1.mono hL.out.b.size)⟩⟩
      clear hu hum hTu hC2 hL b1
      go_upto_region 7 with (first
        | (guard_target =~ wpList _ _ _ (Oper.mk _ (Op.load 42 _) _ _ _ _ :: _) _ _; go_must (refine wpList_ld 42 (.tmp 41) rfl rfl _ _ rfl lT.out ?_); simp only [pts])
        | (guard_target =~ wpList _ _ _ (Oper.mk _ (Op.store 42 _ _) _ _ _ _ :: _) _ _; go_must (refine wpList_st 42 (.tmp 12) (.tmp 42) rfl rfl _ _ rfl rfl (sT.out _ rfl) ?_); simp only [pts]))
      generalize wr.alloc (tkO u pu cu) = X at hX hL'
      clear t20 f12 lT sT
      have hx := tk_of hX.out
      have x0 := hx.c0
      have x1 := hx.c1
      have x8 := hx.c8
      have x20 := hx.c20
      rw [HUM.out] at x20
      simp only [Nat.zero_add] at x1 x8 x20
      clear hx
      have f12 := F'.out X hL'.out.b
      have n20 := N20.out X hL'.out.b
      by_cases h2 : u.op = 2
      · have c2 : (u.op != 2) = false := by simp [h2]
        have c2' : (u.op == 2) = true := by simp [h2]
        have hrf : Hid (rowF f.toks i = false) := ⟨by unfold rowF; rw [opAt_some HU.out]; simp [h2]⟩
        have hff : Hid (fldF f.toks i = calledB f.toks i) := ⟨by unfold fldF; rw [opAt_some HU.out]; simp [h2]⟩
        clear h2
        go_upto_region 11 with fail
        go_loopw [14, 13] (fun q b wy => ∃ k : Nat, i + 1 ≤ k ∧ k ≤ mm ∧ q = .int .i64 (k : Int) ∧ wy = X ∧ b = .bool (metB f.toks u i k)) (fun q _ _ => mm - (RowKit.intOf q).toNat)
        case atStart => exact ⟨i + 1, Nat.le_refl _, by omega, by go_num, rfl, by rw [met_zero]⟩
        case round =>
          obtain ⟨k, hk1, hk2, rfl, rfl, rfl⟩ := hrel
          by_cases hkm2 : k < mm
          · have hkl2 : k < f.toks.length := by omega
            obtain ⟨y, hy⟩ : ∃ y, f.toks[k]? = some y := ⟨f.toks[k], List.getElem?_eq_getElem hkl2⟩
            obtain ⟨_, _, py, cy, e, _, hTy, _⟩ := (TL.out _ hL'.out.b).at hy
            cases e
            have y0 := hTy.c0
            have y8 := hTy.c8
            have hki2 : (k : Int) < mm := by omega
            have hki3 : (k : Int) < f.toks.length := by omega
            have hkb := hll.out
            have hms := met_succ (u := u) hk1 hy
            clear hTy hy
            obtain ⟨bv, hbv⟩ : ∃ bv, metB f.toks u i k = bv := ⟨_, rfl⟩
            rw [hbv] at hms ⊢
            have HM : Hid _ := ⟨hms⟩
            clear hms hbv
            cases bv with
            | true =>
              go_wp2_with fail
              go_roundw
              case rel => exact ⟨k + 1, by omega, by omega, by go_num, by first | rfl | trivial, by rw [HM.out]; rfl⟩
              case measure => simp [RowKit.intOf]; omega
            | false =>
              by_cases hp2 : u.pres = 2
              · have p2 : (u.pres != 2) = false := by simp [hp2]
                have p2' : (u.pres == 2) = true := by simp [hp2]
                have HP : Hid (metB f.toks u i (k + 1) = false) := ⟨by rw [HM.out]; simp [hp2]⟩
                clear hp2
                go_wp2_with fail
                go_roundw
                case rel => exact ⟨k + 1, by omega, by omega, by go_num, by first | rfl | trivial, by rw [HP.out]⟩
                case measure => simp [RowKit.intOf]; omega
              · have p2 : (u.pres != 2) = true := by simp [hp2]
                have p2' : (u.pres == 2) = false := by simp [hp2]
                by_cases h14 : y.op = 14
                · have q2 : (y.op == 14) = true := by simp [h14]
                  by_cases hy2 : y.pres = 2
                  · have r2 : (y.pres != 2) = false := by simp [hy2]
                    have HP : Hid (metB f.toks u i (k + 1) = false) := ⟨by rw [HM.out]; unfold lvB; simp [hp2, hy2]⟩
                    clear hp2 h14 hy2
                    go_wp2_with fail
                    go_roundw
                    case rel => exact ⟨k + 1, by omega, by omega, by go_num, by first | rfl | trivial, by rw [HP.out]⟩
                    case measure => simp [RowKit.intOf]; omega
                  · have r2 : (y.pres != 2) = true := by simp [hy2]
                    have HP : Hid (metB f.toks u i (k + 1) = true) := ⟨by rw [HM.out]; unfold lvB; simp [hp2, hy2, h14]⟩
                    clear hp2 h14 hy2
                    go_wp2_with fail
                    go_roundw
                    case rel => exact ⟨k + 1, by omega, by omega, by go_num, by first | rfl | trivial, by rw [HP.out]⟩
                    case measure => simp [RowKit.intOf]; omega
                · have q2 : (y.op == 14) = false := by simp [h14]
                  have HP : Hid (metB f.toks u i (k + 1) = false) := ⟨by rw [HM.out]; unfold lvB; simp [h14]⟩
                  clear hp2 h14
                  go_wp2_with fail
                  go_roundw
                  case rel => exact ⟨k + 1, by omega, by omega, by go_num, by first | rfl | trivial, by rw [HP.out]⟩
                  case measure => simp [RowKit.intOf]; omega
          · obtain rfl : k = mm := by omega
            have d2 : decide ((k : Int) < k) = false := by simp
            have hme := met_end HU.out HUM.out
            rw [hme]
            clear hme hkm2 hk2
            cases hcb2 : calledB f.toks i with
            | false =>
              have hL2 : Hid (L1 f.toks W ks (ks1 ++ [i]) r' (k + 1) n u9 u10 wr) := ⟨by
                have hff' := hff.out.trans hcb2
                refine ⟨hks2.out, HC2.out, ?_, ?_, hL'.out.d, hL'.out.b⟩
                · rw [List.filter_append, List.map_append]
                  simp only [List.filter_cons, hff', List.filter_nil, List.map_nil, List.append_nil, Bool.false_eq_true, if_false]
                  exact hL'.out.s
                · rw [List.filter_append]
                  simp only [List.filter_cons, hrf.out, List.filter_nil, List.append_nil, Bool.false_eq_true, if_false]
                  exact hL'.out.n⟩
              clear hcb2
              go_wp2_with fail
              go_roundw
              case rel => exact ⟨k + 1, ks1 ++ [i], r', by go_num, by omega, by omega, hL2⟩
              case measure => simp [RowKit.intOf]; omega
            | true =>
              have hap : Hid _ := ⟨st_ap u.name hL'.out.s (by have := List.length_filter_le (fldF f.toks) ks1; have := hkl.out; rw [List.length_map]; omega) hL'.out.b.size⟩
              have G : Hid (∀ (v' : Value) (Y : World), (SOwn Y W.heap.size v' ((ks1.filter (fldF f.toks)).map (nmAt f.toks) ++ [u.name]) ∧ Below W.heap.size wr Y ∧ (∀ j, j < wr.heap.size → u9.ownBlock ≠ some j → Y.heap[j]? = wr.heap[j]?) ∧ ∀ k, v'.ownBlock = some k → u9.ownBlock = some k ∨ wr.heap.size ≤ k) → L1 f.toks W ks (ks1 ++ [i]) r' (k + 1) n v' u10 Y) := ⟨fun v' Y hq => by
                have hff' := hff.out.trans hcb2
                refine ⟨hks2.out, HC2.out, ?_, ?_, fun k hk hk' => ?_, hL'.out.b.trans hq.2.1⟩
                · rw [List.filter_append, List.map_append]
                  simp only [List.filter_cons, hff', List.filter_nil, if_true, List.map_cons, List.map_nil, nmAt_some HU.out]
                  exact hq.1
                · rw [List.filter_append]
                  simp only [List.filter_cons, hrf.out, List.filter_nil, List.append_nil, Bool.false_eq_true, if_false]
                  exact own_keepP hL'.out.n fun k hk => hq.2.2.1 k (World.ownsRow.lt hL'.out.n k hk).2 fun e => hL'.out.d k e hk
                · rcases hq.2.2.2 k hk with e | e
                  · exact hL'.out.d k e hk'
                  · have := (World.ownsRow.lt hL'.out.n k hk').2
                    omega⟩
              clear hcb2
              go_upto_region 5 with (at_builtin; go_must (refine (ap_step (by rfl) _ _ _ _ (by rfl) _ _ (by rfl) (by rfl) _ hap.out ?_)); rintro v' Y hq; have hL2 := G.out v' Y hq; have f12' := F'.out Y hL2.b; have n20' := N20.out Y hL2.b; replace hL2 : Hid _ := ⟨hL2⟩; clear hq)
              go_wp2_with fail
              go_roundw
              case rel => exact ⟨k + 1, ks1 ++ [i], r', by go_num, by omega, by omega, hL2⟩
              case measure => simp [RowKit.intOf]; omega
      · have c2 : (u.op != 2) = true := by simp [h2]
        have c2' : (u.op == 2) = false := beq_eq_false_iff_ne.2 h2
        have hrf : rowF f.toks i = true := by unfold rowF; rw [opAt_some HU.out]; simp [h2]
        have hff : fldF f.toks i = false := by unfold fldF; rw [opAt_some HU.out]; simp [h2]
        have hap : Hid _ := ⟨i_apG i hL'.out.n (by have := List.length_filter_le (rowF f.toks) ks1; have := hkl.out; omega) hL'.out.b.size⟩
        have G : Hid (∀ (v' : Value) (Y : World), (NRow Y W.heap.size v' (ks1.filter (rowF f.toks) ++ [i]) ∧ Below W.heap.size X Y ∧ (∀ j, j < X.heap.size → u10.ownBlock ≠ some j → Y.heap[j]? = X.heap[j]?) ∧ ∀ k, v'.ownBlock = some k → u10.ownBlock = some k ∨ X.heap.size ≤ k) → L1 f.toks W ks (ks1 ++ [i]) r' (mm + 1) n u9 v' Y) := ⟨fun v' Y hq => by
          refine ⟨hks2.out, HC2.out, ?_, ?_, fun k hk hk' => ?_, hL'.out.b.trans hq.2.1⟩
          · rw [List.filter_append, List.map_append]
            simp only [List.filter_cons, hff, List.filter_nil, List.map_nil, List.append_nil, Bool.false_eq_true, if_false]
            exact own_keepP hL'.out.s fun k hk => hq.2.2.1 k (World.ownsRow.lt hL'.out.s k hk).2 (hL'.out.d k hk)
          · rw [List.filter_append]
            simp only [List.filter_cons, hrf, List.filter_nil, if_true]
            exact hq.1
          · rcases hq.2.2.2 k hk' with e | e
            · exact hL'.out.d k hk e
            · have := (World.ownsRow.lt hL'.out.s k hk).2
              omega⟩
        clear hrf hff h2
        go_upto_region 5 with (at_builtin; go_must (refine (ap_step (by rfl) _ _ _ _ (by rfl) _ _ (by rfl) (by rfl) _ hap.out ?_)); rintro v' Y hq; have hL2 := G.out v' Y hq; have f12' := F'.out Y hL2.b; have n20' := N20.out Y hL2.b; replace hL2 : Hid _ := ⟨hL2⟩; clear hq)
        go_wp2_with fail
        go_roundw
        case rel => exact ⟨mm + 1, ks1 ++ [i], r', by go_num, by omega, by omega, hL2⟩
        case measure => simp [RowKit.intOf]; omega
    · obtain rfl : i = n := by omega
      have hr0 := chn_end hL.out.c hrn
      subst hr0
      have hkk := hL.out.k
      rw [List.append_nil] at hkk
      subst hkk
      have hfz : Hid (fldZ f.toks p = ks.filter (fldF f.toks)) := ⟨by unfold fldZ; rw [hP.bg.kids]; rfl⟩
      have hrz : Hid (rowZ f.toks p = ks.filter (rowF f.toks)) := ⟨by unfold rowZ; rw [hP.bg.kids]; rfl⟩
      have hrl : Hid ((rowZ f.toks p).length ≤ f.toks.length) := ⟨rowZ_le _ _⟩
      have hfl : Hid ((fldZ f.toks p).length ≤ f.toks.length) := ⟨by
        have h3 := rise_length hP.bg.up (fun k hk => (hP.bg.kn k hk).2)
        have h4 := List.length_filter_le (fldF f.toks) ks
        rw [hfz.out]
        omega⟩
      obtain ⟨p9, c9, rfl⟩ : ∃ p9 c9, u9 = .slice p9 (fldZ f.toks p).length c9 := by
        obtain ⟨p9, c9, e, -⟩ := hL.out.s.shape
        exact ⟨p9, c9, by rw [e, List.length_map, hfz.out]⟩
      obtain ⟨p10, c10, rfl⟩ : ∃ p10 c10, u10 = .slice p10 (rowZ f.toks p).length c10 := by
        obtain ⟨p10, c10, e, -⟩ := hL.out.n.shape
        exact ⟨p10, c10, by rw [e, hrz.out]⟩
      have hb3 : Hid (Below w.heap.size w wr) := ⟨HB.out.trans (hL.out.b.mono HB.out.size)⟩
      have hvb : Hid (∀ k, v.ownBlock = some k → cb + 1 ≤ k ∧ k < w.heap.size) := ⟨fun k hk => World.ownsRow.lt how.out k hk⟩
      have RJ0 : RJ cb L pL cL wr v wr v out at_ := ⟨FW.below (Below.refl _ _), (hb3.out.block _ hcb).trans hch.out, own_keep how.out hb3.out⟩
      -- what stands in every world from here on
      have D : Hid (∀ (X : World) (vc : Value) (o : List Oc) (a : Nat), RJ cb L pL cL wr v X vc o a → TkL X (some ⟨gt, ot, none⟩) cb f.toks ∧ PRow X pL cb L ∧ FmC X w.heap.size 0 f (some ⟨gt, ot, none⟩) cp ∧ SOwn X W.heap.size (.slice p9 (fldZ f.toks p).length c9) ((fldZ f.toks p).map (nmAt f.toks)) ∧ NRow X W.heap.size (.slice p10 (rowZ f.toks p).length c10) (rowZ f.toks p) ∧ cb + 1 ≤ X.heap.size) := ⟨fun X vc o a hJ => by
        have hlow : Below cb w X := (hb3.out.mono (by omega)).trans (hJ.fw.low (fun k hk => by have := (hvb.out k hk).1; omega) (by have := hb3.out.size; omega))
        have hs := hJ.fw.fr.size
        have hs3 := hb3.out.size
        have hsW := HS.out
        have hWs := hL.out.b.size
        refine ⟨tl.out.below hlow, pl.out.below hlow, ?_, ?_, ?_, by omega⟩
        · have e1 := FM.out wr hL.out.b
          exact e1.same (hJ.fw.fr.block _ (by omega) (fun e => by
            rcases e with e | e
            · omega
            · have := (hvb.out _ e).2; omega))
        · have hs9 := hL.out.s
          rw [← hfz.out] at hs9
          exact hJ.fw.own hs9 (by omega) (fun k hk hk' => by have e1 := (World.ownsRow.lt hs9 k hk).1; have e2 := (hvb.out k hk').2; omega)
        · have hn10 := hL.out.n
          rw [← hrz.out] at hn10
          exact hJ.fw.own hn10 (by omega) (fun k hk hk' => by have e1 := (World.ownsRow.lt hn10 k hk).1; have e2 := (hvb.out k hk').2; omega)⟩
      have cN := chNext_any cb at_ 4 L pL cL wr RJ0.ch (D.out _ _ _ _ RJ0).2.1 (by have := hat.out; have := hph.out; have := Ph_ge T out.length; omega) (by decide) (by decide)
      replace RJ0 : Hid _ := ⟨RJ0⟩
      have d1 : decide ((i : Int) < i) = false := by simp
      obtain ⟨w3, rfl⟩ : ∃ w3, w3 = wr := ⟨_, rfl⟩
      clear hlt hi1 hi2 hrn
      go_upto_region 17 with (go_at_call 23; refine cN.mono ?_; rintro _ X ⟨k0, hk0, rfl, hch2, hkb2⟩; have hJ : Hid _ := ⟨RJ0.out.next hkb2 hch2⟩; clear hch2 hkb2)
      clear cN d1 t20 f12
      go_loopw [15, 3] (fun q vc wy => ∃ (kk : Nat) (fs : List Oc) (a : Nat), q = .int .i64 (kk : Int) ∧ fs.length + kk ≤ 3 ∧ Hid (RJ cb L pL cL w3 v wy vc (out ++ fs) a ∧ a ≤ (out ++ fs).length + 1 ∧ ∀ c ∈ fs, c.k = 0 ∧ c.cnt = 0 ∧ ∃ i ∈ fldZ f.toks p, nmAt f.toks i = c.nm)) (fun q _ _ => (RowKit.intOf q).toNat)
      case atStart => exact ⟨k0, [], at_ + 1, by go_num, by simp; omega, ⟨by rw [List.append_nil]; exact hJ.out, by have := hat.out; simp; omega, fun c hc => by cases hc⟩⟩
      case round =>
        clear hJ
        obtain ⟨kk, fs, a, rfl, hkk3, hI⟩ := hrel
        have hJ : Hid _ := ⟨hI.out.1⟩
        have ha : Hid _ := ⟨hI.out.2.1⟩
        have hfs : Hid _ := ⟨hI.out.2.2⟩
        clear hI
        have hlen : Hid ((out ++ fs).length ≤ 10000000000) := ⟨by
          have h1 := hph.out
          have h2 := Ph_ge T out.length
          have h3 := hT
          rw [List.length_append]
          omega⟩
        have hcase : (0 < kk ∧ 0 < (fldZ f.toks p).length) ∨ (kk = 0 ∨ (0 < kk ∧ (fldZ f.toks p).length = 0)) := by omega
        rcases hcase with ⟨hk1, hf1⟩ | hcase
        · have g1 : decide ((0 : Int) < (kk : Int)) = true := by simp; omega
          have g2 : decide ((0 : Int) < ((fldZ f.toks p).length : Int)) = true := by simp; omega
          have hDD := D.out _ _ _ _ hJ.out
          have cN := chNext_any cb a (fldZ f.toks p).length L pL cL wr hJ.out.ch hDD.2.1 (by have := ha.out; have := hlen.out; omega) hf1 (by have := hfl.out; have := hll.out; omega)
          have NX : Hid (∀ (X : World) (j : Nat), j < (fldZ f.toks p).length → Kb [cb] wr X → X.heap[cb]? = some (chO pL L.length cL ((a + 1 : Nat) : Int)) → ∃ g9 ix, p9 = some ⟨g9, 0, none⟩ ∧ (fldZ f.toks p)[j]? = some ix ∧ X.cell? ⟨g9, j, none⟩ = some (.string (nmAt f.toks ix)) ∧ Hid (RJ cb L pL cL w3 v X u3 (out ++ fs) (a + 1))) := ⟨fun X j hj hk hc => by
            have hJ2 := hJ.out.next hk hc
            have hS := (D.out _ _ _ _ hJ2).2.2.2.1
            obtain ⟨ix, hix⟩ : ∃ ix, (fldZ f.toks p)[j]? = some ix := ⟨(fldZ f.toks p)[j], List.getElem?_eq_getElem hj⟩
            obtain ⟨g9, e9, hc9⟩ := hS.get (i := j) (s := nmAt f.toks ix) (by rw [List.getElem?_map, hix]; rfl)
            exact ⟨g9, ix, e9, hix, hc9, ⟨hJ2⟩⟩⟩
          clear hDD hcb
          go_upto_region 18 with (first
            | (go_at_call 23; refine cN.mono ?_; rintro _ X ⟨j, hj, rfl, hch2, hkb2⟩; obtain ⟨g9, ix, rfl, hix, hc9, hJ2⟩ := NX.out X j hj hkb2 hch2; have hji : (j : Int) < (fldZ f.toks p).length := (by omega); have hap : Hid _ := ⟨c_ap ⟨0, nmAt f.toks ix, 0⟩ hJ2.out.ow (by have := hlen.out; omega) (D.out _ _ _ _ hJ2.out).2.2.2.2.2⟩; replace hix : Hid _ := ⟨hix⟩; clear hch2 hkb2)
            | (at_builtin; go_must (refine (ap_step (by rfl) _ _ _ _ (by rfl) _ _ (by rfl) (by rfl) _ hap.out ?_)); rintro v' Y hq; have hJ3 : Hid _ := ⟨hJ2.out.app hq⟩; clear hq))
          go_wp2_with fail
          go_roundw
          case rel =>
            refine ⟨kk - 1, fs ++ [⟨0, nmAt f.toks ix, 0⟩], a + 1, by go_num, by simp; omega, ⟨by rw [← List.append_assoc]; exact hJ3.out, by have := ha.out; simp at this ⊢; omega, fun c hc => ?_⟩⟩
            rcases List.mem_append.1 hc with hc | hc
            · exact hfs.out c hc
            · rw [List.mem_singleton.1 hc]
              exact ⟨rfl, rfl, ix, List.mem_of_getElem? hix.out, rfl⟩
          case measure => simp [RowKit.intOf]; omega
        · have g12 : kk = 0 ∨ (0 < kk ∧ fldZ f.toks p = []) := by
            rcases hcase with h | ⟨h, h'⟩
            · exact .inl h
            · exact .inr ⟨h, List.eq_nil_of_length_eq_zero h'⟩
          have hfb : Hid (fs.length ≤ 3) := ⟨by omega⟩
          have hP0 : Hid (Ph T (out ++ fs).length ≤ Ph T out.length + 3 ∧ ph (out ++ fs).length ≤ ph out.length) := ⟨by
            rw [List.length_append]
            have key : ∀ m n, Ph T (n + m) ≤ Ph T n + m ∧ ph (n + m) ≤ ph n := by
              intro m
              induction m with
              | zero => exact fun n => ⟨Nat.le_refl _, Nat.le_refl _⟩
              | succ m ih =>
                intro n
                have h1 := ih n
                have h2 := Ph_succ T (n + m)
                have h3 := ph_succ (n + m)
                rw [show n + (m + 1) = n + m + 1 by omega]
                omega
            have := key fs.length out.length
            omega⟩
          clear hcase hkk3
          rcases g12 with rfl | ⟨g1, g2⟩
          all_goals
            go_upto_region 21 with fail
            try clear g2
            go_loopw [112, 3] (fun q vc wy => ∃ j : Nat, j ≤ (rowZ f.toks p).length ∧ q = .int .i64 (j : Int) ∧ J4 f.toks cb L pL cL w3 v T d p out fs j vc wy) (fun q _ _ => (rowZ f.toks p).length - (RowKit.intOf q).toNat)
            case atStart => exact ⟨0, Nat.zero_le _, by go_num, [], a, by rw [List.append_nil]; exact hJ.out, by rw [List.append_nil]; exact ha.out, rfl, by rw [List.append_nil]; exact hP0.out.1, by rw [List.append_nil]; have := hP0.out.2; simp only [tot]; omega⟩
            case round =>
              clear hJ ha hlen
              obtain ⟨j, hj, rfl, hI⟩ := hrel
              obtain ⟨rs, a, i1, i2, i3, i4, i5⟩ := hI
              have hJ : Hid _ := ⟨i1⟩
              have ha : Hid _ := ⟨i2⟩
              have hRR : Hid _ := ⟨i3⟩
              have hPh : Hid _ := ⟨i4⟩
              have htt : Hid _ := ⟨i5⟩
              clear i1 i2 i3 i4 i5
              generalize hO : (out ++ fs) ++ rs = O at hJ ha hPh htt
              have hlen : Hid (O.length + T ≤ 20000000000) := ⟨by
                have h1 := hph.out
                have h2 := Ph_ge T O.length
                have h3 := hPh.out
                have h4 := hrl.out
                omega⟩
              by_cases hjl : j < (rowZ f.toks p).length
              · obtain ⟨q, hrq⟩ : ∃ q, (rowZ f.toks p)[j]? = some q := ⟨(rowZ f.toks p)[j], List.getElem?_eq_getElem hjl⟩
                have hqr : q ∈ rowZ f.toks p := List.mem_of_getElem? hrq
                have hqk : q ∈ ks ∧ rowF f.toks q = true := by rw [hrz.out] at hqr; exact List.mem_filter.1 hqr
                obtain ⟨y, mq, hy, hym, hmi⟩ := chn_mem hP.bg.ch (fun j hj => (hP.bg.kn j hj).2) q hqk.1
                have hkq := hP.bg.kn q hqk.1
                have hoy : y.op = 4 ∨ y.op = 6 := by
                  have h1 := (hP.kop q hqk.1 y hy).1
                  have h2 := hqk.2
                  unfold rowF at h2
                  rw [opAt_some hy] at h2
                  simp at h2
                  omega
                have hnq : Hid (nmAt f.toks q = y.name) := ⟨nmAt_some hy⟩
                have hopq : Hid (opAt f.toks q = y.op) := ⟨opAt_some hy⟩
                obtain ⟨po, co, rfl⟩ := hJ.out.ow.shp
                have hDD := D.out _ _ _ _ hJ.out
                obtain ⟨g10, rfl, hc10⟩ := hDD.2.2.2.2.1.get hrq
                have f12 := hDD.2.2.1.c12
                simp only [Nat.zero_add] at f12
                obtain ⟨_, _, py, cy, e, hgy, hTy, _⟩ := hDD.1.at hy
                cases e
                have lT : Hid _ := ⟨hTy.load⟩
                have sT : Hid _ := ⟨fun z hz => st_new wr z hz y py cy⟩
                have hX : Hid ((wr.alloc (tkO y py cy)).heap[wr.heap.size]? = some (tkO y py cy)) := ⟨heap_al _ _⟩
                have hJX : Hid (RJ cb L pL cL w3 v (wr.alloc (tkO y py cy)) (.slice po O.length co) O a) := ⟨hJ.out.below (bel1 _ _)⟩
                have hXl : Hid (wr.heap.size < (wr.alloc (tkO y py cy)).heap.size) := ⟨by rw [World.size_alloc]; omega⟩
                have hcw : Hid (cb < wr.heap.size) := ⟨(Array.getElem?_eq_some_iff.1 hJ.out.ch).1⟩
                have hji : (j : Int) < (rowZ f.toks p).length := by omega
                have hqi : (q : Int) < f.toks.length := by omega
                replace hrq : Hid _ := ⟨hrq⟩
                have hPq0 : Hid (y.op = 4 → ∃ ksq, Pb f.toks q mq y ksq) := ⟨fun h => by
                  obtain ⟨n', ks', hPk⟩ := pb_of hz hy (.inr (.inl h))
                  have hn' : n' = mq := by have := hPk.bg.en; omega
                  subst hn'
                  exact ⟨ks', hPk⟩⟩
                have hdq : Hid (mq - q ≤ d) := ⟨by omega⟩
                clear hDD hTy hy hym hqk hqr hgy
                go_upto_region 24 with (first
                  | (guard_target =~ wpList _ _ _ (Oper.mk _ (Op.load 42 _) _ _ _ _ :: _) _ _; go_must (refine wpList_ld 42 (.tmp 119) rfl rfl _ _ rfl lT.out ?_); simp only [pts])
                  | (guard_target =~ wpList _ _ _ (Oper.mk _ (Op.store 42 _ _) _ _ _ _ :: _) _ _; go_must (refine wpList_st 42 (.tmp 18) (.tmp 120) rfl rfl _ _ rfl rfl (sT.out _ rfl) ?_); simp only [pts]))
                clear lT sT f12 hc10
                generalize wr.alloc (tkO y py cy) = X at hX hJX hXl
                have hx := tk_of hX.out
                have x0 := hx.c0
                have x1 := hx.c1
                simp only [Nat.zero_add] at x1
                clear hx
                by_cases h6 : y.op = 6
                · have c6 : (y.op == 6) = true := by simp [h6]
                  have hoq : Hid (opAt f.toks q = 6) := ⟨hopq.out.trans h6⟩
                  have hap : Hid _ := ⟨c_ap ⟨3, y.name, 0⟩ hJX.out.ow (by have := hlen.out; omega) (D.out _ _ _ _ hJX.out).2.2.2.2.2⟩
                  have hlb := hll.out
                  have hrb := hrl.out
                  clear h6
                  go_upto_region 35 with (at_builtin; go_must (refine (ap_step (by rfl) _ _ _ _ (by rfl) _ _ (by rfl) (by rfl) _ hap.out ?_)); rintro v' Y hq; have hJ2 : Hid _ := ⟨hJX.out.app hq⟩; clear hq)
                  go_wp2_with fail
                  go_roundw
                  case rel =>
                    have eO : (out ++ fs) ++ (rs ++ [⟨3, y.name, 0⟩]) = O ++ [⟨3, y.name, 0⟩] := by rw [← hO]; simp
                    have key : J4 f.toks cb L pL cL w3 v T d p out fs (j + 1) v' Y := by
                      refine ⟨rs ++ [⟨3, y.name, 0⟩], a, by rw [eO]; exact hJ2.out, by rw [eO]; have := ha.out; simp; omega, ?_, ?_, ?_⟩
                      · rw [List.take_add_one, hrq.out]
                        exact RowR_snoc (.inl ⟨hoq.out, by rw [hnq.out]⟩) hRR.out
                      · rw [eO, List.length_append]
                        have h1 := hPh.out
                        have h2 := Ph_succ T O.length
                        simp only [List.length_singleton]
                        omega
                      · rw [eO, List.length_append, tot_append, tot, tot]
                        have h1 := htt.out
                        have h2 := ph_succ O.length
                        simp only [List.length_singleton, show ¬ ((3 : Int) = 1) by decide, if_false]
                        omega
                    first
                      | exact ⟨j + 1, by omega, by go_num, key⟩
                      | ((repeat (apply Exists.intro)); refine And.intro ?_ ?_; rotate_left; (repeat' (first | exact rfl | apply And.intro)); exact ⟨j + 1, by omega, by go_num, key⟩)
                  case measure => simp [RowKit.intOf]; omega
                · have c6 : (y.op == 6) = false := by simp [h6]
                  have h4 : Hid (y.op = 4) := ⟨by omega⟩
                  have hoq : Hid (opAt f.toks q = 4) := ⟨hopq.out.trans h4.out⟩
                  obtain ⟨ksq, hPq⟩ := hPq0.out h4.out
                  replace hPq : Hid _ := ⟨hPq⟩
                  have cN := chNext_any cb a 4 L pL cL X hJX.out.ch (D.out _ _ _ _ hJX.out).2.1 (by have := ha.out; have := hlen.out; omega) (by decide) (by decide)
                  clear h6
                  have NX : Hid (∀ (X2 : World), Kb [cb] X X2 → X2.heap[cb]? = some (chO pL L.length cL ((a + 1 : Nat) : Int)) → X2.cell? ⟨wr.heap.size, 1, none⟩ = some (.string y.name) ∧ Hid (RJ cb L pL cL w3 v X2 (.slice po O.length co) O (a + 1))) := ⟨fun X2 hk hc => by
                    have e := hk.block wr.heap.size hXl.out (by have := hcw.out; simp; omega)
                    exact ⟨(cell_blk e).trans x1, ⟨hJX.out.next hk hc⟩⟩⟩
                  have hlo := hlen.out
                  by_cases h200 : 200 < O.length
                  · have g200 : decide ((200 : Int) < (O.length : Int)) = true := decide_eq_true (by omega)
                    have h200i : (200 : Int) < (O.length : Int) := by omega
                    have hnn : Hid (0 < 0 → O.length ≤ 200) := ⟨fun h => by omega⟩
                    have hn3 : (0 : Nat) ≤ 3 := by decide
                    go_upto_region 31 with (first
                      | (go_at_call 23; refine cN.mono ?_; rintro _ X2 ⟨n0, hn0, rfl, hch2, hkb2⟩; obtain ⟨y1, hJ2⟩ := NX.out X2 hkb2 hch2; have hap : Hid _ := ⟨c_ap ⟨1, y.name, 0⟩ hJ2.out.ow (by omega) (D.out _ _ _ _ hJ2.out).2.2.2.2.2⟩; clear hch2 hkb2)
                      | (at_builtin; go_must (refine (ap_step (by rfl) _ _ _ _ (by rfl) _ _ (by rfl) (by rfl) _ hap.out ?_)); rintro v' Y hq; have hJ4 : Hid _ := ⟨hJ2.out.app hq⟩; clear hq))
                    clear hlo g200 h200i h200
                    go_loopw [20, 3] (fun qq vc wy => ∃ k : Nat, k ≤ 0 ∧ qq = .int .i64 (k : Int) ∧ J5 f.toks cb L pL cL w3 v T d q (O ++ [⟨1, y.name, 0⟩]) O.length k vc wy) (fun qq _ _ => 0 - (RowKit.intOf qq).toNat)
                    case atStart => exact ⟨0, Nat.zero_le _, by go_num, [], a + 1, rfl, by rw [List.flatMap_nil, List.append_nil]; exact hJ4.out, by rw [List.flatMap_nil, List.append_nil, List.length_append]; have := ha.out; simp; omega, fun e he => (by cases he), by rw [List.flatMap_nil, List.append_nil, List.length_append]; simp, by rw [List.flatMap_nil, List.append_nil, List.length_append]; simp [tot]⟩
                    case round =>
                      obtain ⟨k, hk, rfl, hI⟩ := hrel
                      obtain ⟨es, a5, hes, i1, i2, i3, i4, i5⟩ := hI
                      have hE : Hid _ := ⟨i1⟩
                      have ha5 : Hid _ := ⟨i2⟩
                      have hRe : Hid _ := ⟨i3⟩
                      have hPe : Hid _ := ⟨i4⟩
                      have hte : Hid _ := ⟨i5⟩
                      clear i1 i2 i3 i4 i5
                      by_cases hkn : k < 0
                      · exact absurd hkn (Nat.not_lt_zero _)
                      · obtain rfl : k = 0 := by omega
                        have d5 : decide (0 < 0) = false := by simp
                        have hrel2 : Hid (∃ (rs' : List Oc) (a' : Nat), RJ cb L pL cL w3 v wr u3 ((out ++ fs) ++ rs') a' ∧ a' ≤ ((out ++ fs) ++ rs').length + 1 ∧ RowR f.toks (RunD f.toks d) ((rowZ f.toks p).take (j + 1)) rs' ∧ Ph T ((out ++ fs) ++ rs').length ≤ Ph T out.length + 3 + (j + 1) ∧ tot rs' + ph ((out ++ fs) ++ rs').length ≤ ph out.length) := ⟨by
                          have eO : (O ++ [⟨1, y.name, 0⟩]) ++ es.flatMap (fun e => nxC :: e) = (out ++ fs) ++ (rs ++ (⟨1, y.name, 0⟩ :: es.flatMap (fun e => nxC :: e))) := by rw [← hO]; simp
                          have e1 := hE.out
                          have e2 := ha5.out
                          have e3 := hPe.out
                          have e4 := hte.out
                          rw [eO] at e1 e2 e3 e4
                          refine ⟨rs ++ (⟨1, y.name, 0⟩ :: es.flatMap (fun e => nxC :: e)), a5, e1, e2, ?_, ?_, ?_⟩
                          · rw [List.take_add_one, hrq.out]
                            refine RowR_snoc (.inr ⟨hoq.out, es, by omega, ?_, hRe.out⟩) hRR.out
                            rw [hnq.out, hes]
                            try rfl
                          · have h1 := hPh.out
                            have h2 := Ph_succ T O.length
                            rcases Nat.eq_zero_or_pos 0 with h0 | h0
                            · have h5 : 0 * (T + 1) = 0 := by rw [h0, Nat.zero_mul]
                              omega
                            · have h3 := Ph_drop (T := T) (hnn.out h0)
                              have h4 : 0 * (T + 1) ≤ 3 * (T + 1) := Nat.mul_le_mul_right _ hn3
                              omega
                          · rw [tot_append, tot]
                            simp only [if_true]
                            have h1 := htt.out
                            have h2 := ph_succ O.length
                            rcases Nat.eq_zero_or_pos 0 with h0 | h0
                            · omega
                            · have h3 := ph_drop (hnn.out h0)
                              omega⟩
                        have hlb := hll.out
                        have hrb := hrl.out
                        clear hkn hk
                        go_wp2_with fail
                        go_roundw
                        case rel =>
                          obtain ⟨rs', a', r1, r2, r3, r4, r5⟩ := hrel2.out
                          first
                            | exact ⟨j + 1, by omega, by go_num, rs', a', r1, r2, r3, r4, r5⟩
                            | ((repeat (apply Exists.intro)); refine And.intro ?_ ?_; rotate_left; (repeat' (first | exact rfl | apply And.intro)); exact ⟨j + 1, by omega, by go_num, rs', a', r1, r2, r3, r4, r5⟩)
                        case measure => simp [RowKit.intOf]; omega
                  · have g200 : decide ((200 : Int) < (O.length : Int)) = false := decide_eq_false (by omega)
                    have h200i : (O.length : Int) ≤ 200 := by omega
                    go_upto_region 31 with (first
                      | (go_at_call 23; refine cN.mono ?_; rintro _ X2 ⟨n0, hn0, rfl, hch2, hkb2⟩; obtain ⟨y1, hJ2⟩ := NX.out X2 hkb2 hch2; have hap : Hid _ := ⟨c_ap ⟨1, y.name, (n0 : Int)⟩ hJ2.out.ow (by omega) (D.out _ _ _ _ hJ2.out).2.2.2.2.2⟩; clear hch2 hkb2)
                      | (at_builtin; go_must (refine (ap_step (by rfl) _ _ _ _ (by rfl) _ _ (by rfl) (by rfl) _ hap.out ?_)); rintro v' Y hq; have hJ4 : Hid _ := ⟨hJ2.out.app hq⟩; clear hq))
                    have hnn : Hid (0 < n0 → O.length ≤ 200) := ⟨fun _ => by omega⟩
                    have hn3 : n0 ≤ 3 := by omega
                    clear hlo g200 h200i h200
                    go_loopw [20, 3] (fun qq vc wy => ∃ k : Nat, k ≤ n0 ∧ qq = .int .i64 (k : Int) ∧ J5 f.toks cb L pL cL w3 v T d q (O ++ [⟨1, y.name, (n0 : Int)⟩]) O.length k vc wy) (fun qq _ _ => n0 - (RowKit.intOf qq).toNat)
                    case atStart => exact ⟨0, Nat.zero_le _, by go_num, [], a + 1, rfl, by rw [List.flatMap_nil, List.append_nil]; exact hJ4.out, by rw [List.flatMap_nil, List.append_nil, List.length_append]; have := ha.out; simp; omega, fun e he => (by cases he), by rw [List.flatMap_nil, List.append_nil, List.length_append]; simp, by rw [List.flatMap_nil, List.append_nil, List.length_append]; simp [tot]⟩
                    case round =>
                      obtain ⟨k, hk, rfl, hI⟩ := hrel
                      obtain ⟨es, a5, hes, i1, i2, i3, i4, i5⟩ := hI
                      have hE : Hid _ := ⟨i1⟩
                      have ha5 : Hid _ := ⟨i2⟩
                      have hRe : Hid _ := ⟨i3⟩
                      have hPe : Hid _ := ⟨i4⟩
                      have hte : Hid _ := ⟨i5⟩
                      clear i1 i2 i3 i4 i5
                      by_cases hkn : k < n0
                      · generalize hO2 : (O ++ [⟨1, y.name, (n0 : Int)⟩]) ++ es.flatMap (fun e => nxC :: e) = O2 at hE ha5 hPe hte
                        have hb2 : Hid (Ph T (O2.length + 1) + T ≤ Ph T O.length + 1) := ⟨by
                          have h1 := Ph_succ T O2.length
                          have h2 := Ph_drop (T := T) (hnn.out (by omega))
                          have h3 := hPe.out
                          have h4 : k * (T + 1) + (T + 1) ≤ 3 * (T + 1) := by
                            rw [← Nat.succ_mul]
                            exact Nat.mul_le_mul_right _ (by have := hn3; omega)
                          omega⟩
                        have hb3' : Hid (Ph T (O2.length + 1) + T ≤ 10000000000) := ⟨by
                          have h1 := hb2.out
                          have h2 := hPh.out
                          have h3 := hrl.out
                          have h4 := hph.out
                          omega⟩
                        have hl2 : Hid (O2.length + 1 ≤ 100000000000) := ⟨by have h1 := hb3'.out; have h2 := Ph_ge T (O2.length + 1); omega⟩
                        have hap5 : Hid _ := ⟨c_ap nxC hE.out.ow hl2.out (D.out _ _ _ _ hE.out).2.2.2.2.2⟩
                        have hki : (k : Int) < (n0 : Int) := by omega
                        have G5 : Hid (∀ (v' : Value) (Y : World), (COwn Y (cb + 1) v' (O2 ++ [nxC]) ∧ Below (cb + 1) wr Y ∧ (∀ j, j < wr.heap.size → u3.ownBlock ≠ some j → Y.heap[j]? = wr.heap[j]?) ∧ ∀ k, v'.ownBlock = some k → u3.ownBlock = some k ∨ wr.heap.size ≤ k) → FmC Y w.heap.size 0 f (some ⟨gt, ot, none⟩) cp ∧ Hid (RJ cb L pL cL w3 v Y v' (O2 ++ [nxC]) a5) ∧ Calls Tryd.prog 13 #[fmV f (some ⟨gt, ot, none⟩) cp, .int .i64 (q : Int), .pointer (some ⟨cb, 0, none⟩), v'] Y fun r w' => ∃ (v'' : Value) (cs : List Oc) (at' : Nat), r = .returned v'' ∧ FW cb Y v' w' v'' ∧ w'.heap[cb]? = some (chO pL L.length cL (at' : Int)) ∧ COwn w' (cb + 1) v'' ((O2 ++ [nxC]) ++ cs) ∧ RunD f.toks d q cs ∧ Ph T ((O2 ++ [nxC]) ++ cs).length ≤ Ph T (O2 ++ [nxC]).length + T ∧ tot cs + ph ((O2 ++ [nxC]) ++ cs).length ≤ ph (O2 ++ [nxC]).length ∧ at' ≤ ((O2 ++ [nxC]) ++ cs).length + 1) := ⟨fun v' Y hq => by
                          have hJ5 := hE.out.app hq
                          have hD5 := D.out _ _ _ _ hJ5
                          refine ⟨hD5.2.2.1, ⟨hJ5⟩, ?_⟩
                          exact IH.out q mq y ksq hPq.out (.inr h4.out) hdq.out Y v' (O2 ++ [nxC]) a5 hD5.1 hD5.2.1 hJ5.ch hJ5.ow (by have := ha5.out; simp; omega) (by rw [List.length_append]; exact hb3'.out)⟩
                        go_upto_region 32 with (first
                          | (at_builtin; go_must (refine (ap_step (by rfl) _ _ _ _ (by rfl) _ _ (by rfl) (by rfl) _ hap5.out ?_)); rintro v' Y hq; obtain ⟨hk, hJ5, cR⟩ := G5.out v' Y hq; have k0 := hk.c0; have k1 := hk.c1; have k2 := hk.c2; have k3 := hk.c3; have k4 := hk.c4; have k5 := hk.c5; have k6 := hk.c6; have k7 := hk.c7; have k8 := hk.c8; have k9 := hk.c9; have k10 := hk.c10; have k11 := hk.c11; have k12 := hk.c12; clear hk hq; simp only [Nat.zero_add] at k1 k2 k3 k4 k5 k6 k7 k8 k9 k10 k11 k12)
                          | (go_at_call 13; refine cR.mono ?_; rintro _ Z ⟨v'', cse, at5, rfl, z1, z2, z3, z4, z5, z6, z7⟩; have HZ : Hid _ := ⟨And.intro z1 (And.intro z2 (And.intro z3 (And.intro z4 (And.intro z5 (And.intro z6 z7)))))⟩; clear z1 z2 z3 z4 z5 z6 z7; clear k0 k1 k2 k3 k4 k5 k6 k7 k8 k9 k10 k11 k12))
                        go_wp2_with fail
                        go_roundw
                        case rel =>
                          obtain ⟨z1, z2, z3, z4, z5, z6, z7⟩ := HZ.out
                          have eO : (O2 ++ [nxC]) ++ cse = (O ++ [⟨1, y.name, (n0 : Int)⟩]) ++ (es ++ [cse]).flatMap (fun e => nxC :: e) := by rw [flat_snoc, ← hO2]; simp
                          rw [eO] at z3 z5 z6 z7
                          have eL : (O2 ++ [nxC]).length = O2.length + 1 := by simp
                          rw [eL] at z5 z6
                          have key : J5 f.toks cb L pL cL w3 v T d q (O ++ [⟨1, y.name, (n0 : Int)⟩]) O.length (k + 1) v'' Z := by
                            refine ⟨es ++ [cse], at5, by simp [hes], ⟨hJ5.out.fw.trans z1, z2, z3⟩, z7, fun e he => ?_, ?_, ?_⟩
                            · rcases List.mem_append.1 he with he | he
                              · exact hRe.out e he
                              · rw [List.mem_singleton.1 he]; exact z4
                            · have h1 := Ph_succ T O2.length
                              have h3 := hPe.out
                              rw [Nat.succ_mul]
                              omega
                            · have h0 : tot ((es ++ [cse]).flatMap (fun e => nxC :: e)) = tot (es.flatMap (fun e => nxC :: e)) + tot cse := by
                                rw [flat_snoc, tot_append, tot]
                                simp
                              have h1 := hte.out
                              have h2 := ph_succ O2.length
                              omega
                          first
                            | exact ⟨k + 1, by omega, by go_num, key⟩
                            | ((repeat (apply Exists.intro)); refine And.intro ?_ ?_; rotate_left; (repeat' (first | exact rfl | apply And.intro)); exact ⟨k + 1, by omega, by go_num, key⟩)
                        case measure => simp [RowKit.intOf]; omega
                      · obtain rfl : n0 = k := by omega
                        have d5 : decide ((n0 : Int) < (n0 : Int)) = false := by simp
                        have hrel2 : Hid (∃ (rs' : List Oc) (a' : Nat), RJ cb L pL cL w3 v wr u3 ((out ++ fs) ++ rs') a' ∧ a' ≤ ((out ++ fs) ++ rs').length + 1 ∧ RowR f.toks (RunD f.toks d) ((rowZ f.toks p).take (j + 1)) rs' ∧ Ph T ((out ++ fs) ++ rs').length ≤ Ph T out.length + 3 + (j + 1) ∧ tot rs' + ph ((out ++ fs) ++ rs').length ≤ ph out.length) := ⟨by
                          have eO : (O ++ [⟨1, y.name, (n0 : Int)⟩]) ++ es.flatMap (fun e => nxC :: e) = (out ++ fs) ++ (rs ++ (⟨1, y.name, (n0 : Int)⟩ :: es.flatMap (fun e => nxC :: e))) := by rw [← hO]; simp
                          have e1 := hE.out
                          have e2 := ha5.out
                          have e3 := hPe.out
                          have e4 := hte.out
                          rw [eO] at e1 e2 e3 e4
                          refine ⟨rs ++ (⟨1, y.name, (n0 : Int)⟩ :: es.flatMap (fun e => nxC :: e)), a5, e1, e2, ?_, ?_, ?_⟩
                          · rw [List.take_add_one, hrq.out]
                            refine RowR_snoc (.inr ⟨hoq.out, es, by omega, ?_, hRe.out⟩) hRR.out
                            rw [hnq.out, hes]
                            try rfl
                          · have h1 := hPh.out
                            have h2 := Ph_succ T O.length
                            rcases Nat.eq_zero_or_pos n0 with h0 | h0
                            · have h5 : n0 * (T + 1) = 0 := by rw [h0, Nat.zero_mul]
                              omega
                            · have h3 := Ph_drop (T := T) (hnn.out h0)
                              have h4 : n0 * (T + 1) ≤ 3 * (T + 1) := Nat.mul_le_mul_right _ hn3
                              omega
                          · rw [tot_append, tot]
                            simp only [if_true]
                            have h1 := htt.out
                            have h2 := ph_succ O.length
                            rcases Nat.eq_zero_or_pos n0 with h0 | h0
                            · omega
                            · have h3 := ph_drop (hnn.out h0)
                              omega⟩
                        have hlb := hll.out
                        have hrb := hrl.out
                        clear hkn hk
                        go_wp2_with fail
                        go_roundw
                        case rel =>
                          obtain ⟨rs', a', r1, r2, r3, r4, r5⟩ := hrel2.out
                          first
                            | exact ⟨j + 1, by omega, by go_num, rs', a', r1, r2, r3, r4, r5⟩
                            | ((repeat (apply Exists.intro)); refine And.intro ?_ ?_; rotate_left; (repeat' (first | exact rfl | apply And.intro)); exact ⟨j + 1, by omega, by go_num, rs', a', r1, r2, r3, r4, r5⟩)
                        case measure => simp [RowKit.intOf]; omega
              · obtain rfl : j = (rowZ f.toks p).length := by omega
                have d4 : decide (((rowZ f.toks p).length : Int) < (rowZ f.toks p).length) = false := by simp
                have hfin : Hid (∃ (v' : Value) (cs : List Oc) (at' : Nat), u3 = v' ∧ FW cb w v wr v' ∧ wr.heap[cb]? = some (chO pL L.length cL (at' : Int)) ∧ COwn wr (cb + 1) v' (out ++ cs) ∧ RunD f.toks (d + 1) p cs ∧ Ph T (out ++ cs).length ≤ Ph T out.length + T ∧ tot cs + ph (out ++ cs).length ≤ ph out.length ∧ at' ≤ (out ++ cs).length + 1) := ⟨by
                  have hO' : out ++ (fs ++ rs) = O := by rw [← hO, List.append_assoc]
                  have hR' := hRR.out
                  rw [List.take_length] at hR'
                  have tf : tot fs = 0 := tot_zero fun c hc h => by rw [(hfs.out c hc).1] at h; cases h
                  refine ⟨_, fs ++ rs, a, rfl, (FW.below hb3.out).trans hJ.out.fw, hJ.out.ch, ?_, ⟨fs, rs, rfl, hfs.out, hR'⟩, ?_, ?_, ?_⟩
                  · rw [hO']; exact hJ.out.ow
                  · rw [hO']; have h1 := hPh.out; have h2 := hrl.out; omega
                  · rw [hO', tot_append, tf]; have h1 := htt.out; omega
                  · rw [hO']; exact ha.out⟩
                go_wp2_with fail
                go_ret
                obtain ⟨v', cs, at', e, h1, h2, h3, h4, h5, h6, h7⟩ := hfin.out
                exact ⟨v', cs, at', by rw [← e]; rfl, h1, h2, h3, h4, h5, h6, h7⟩
end Go.Proofs.YtepnmfgbflogkaaDoor

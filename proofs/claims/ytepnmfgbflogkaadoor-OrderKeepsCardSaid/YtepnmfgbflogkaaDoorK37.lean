/- OsX. -/
import Derived.Test.YtepnmfgbflogkaaDoorK36
namespace Go.Proofs.YtepnmfgbflogkaaDoor
open Go.ChangeShapes Go.WideShapes Go.ChangeAt Go.RowKit Go.Shelf Go.Maps

/-- The form of the law's own gets its tokens. -/
theorem mine_set {W2 w4 : World} {G g' cap' H : Nat} {f : Fm} (h2 : W2.heap[G]? = some (fmO { f with toks := [] } none 0)) (hH : H ≤ G) (hO : TOwn w4 H W2.heap.size g' cap' f.toks) (hb4 : Below W2.heap.size W2 w4) :
    w4.cell? ⟨G, 12, none⟩ = some (.slice none 0 0) ∧ w4.frozen? ⟨G, 12, none⟩ = false ∧ Hid (FmC (w4.setCell ⟨G, 12, none⟩ (.slice (some ⟨g', 0, none⟩) f.toks.length cap')) G 0 f (some ⟨g', 0, none⟩) cap' ∧ TOwn (w4.setCell ⟨G, 12, none⟩ (.slice (some ⟨g', 0, none⟩) f.toks.length cap')) H W2.heap.size g' cap' f.toks ∧ Below G W2 (w4.setCell ⟨G, 12, none⟩ (.slice (some ⟨g', 0, none⟩) f.toks.length cap')) ∧ G < (w4.setCell ⟨G, 12, none⟩ (.slice (some ⟨g', 0, none⟩) f.toks.length cap')).heap.size) := by
  have hG := (Array.getElem?_eq_some_iff.1 h2).1
  have h4 := (hb4.block G hG).trans h2
  have h5 := cellSet h4 12 (.slice (some ⟨g', 0, none⟩) f.toks.length cap')
  have hsz : (w4.setCell ⟨G, 12, none⟩ (.slice (some ⟨g', 0, none⟩) f.toks.length cap')).heap.size = w4.heap.size := by simp [World.setCell]
  have hz := hb4.size
  have hge := hO.ge
  refine ⟨cell_at h4 12, by simp only [World.frozen?, h4]; simp, ⟨⟨cell_at h5 0, cell_at h5 1, cell_at h5 2, cell_at h5 3, cell_at h5 4, cell_at h5 5, cell_at h5 6, cell_at h5 7, cell_at h5 8, cell_at h5 9, cell_at h5 10, cell_at h5 11, cell_at h5 12⟩, ?_, ?_, by omega⟩⟩
  · exact hO.same (by omega) (heap_setCell_other w4 ⟨G, 12, none⟩ g' _ (by show g' ≠ G; omega)) fun k hk => heap_setCell_other w4 ⟨G, 12, none⟩ k _ (by show k ≠ G; omega)
  · exact Below.setCell (B := G) (p := ⟨G, 12, none⟩) (hb4.mono (Nat.le_of_lt hG)) (Nat.le_refl _) _
theorem belSets {B b : Nat} {a : World} (hb : B ≤ b) : ∀ (vs : List Value) (o : Nat) (w : World), Below B a w → Below B a (w.setCells b o vs)
  | [], _, _, h => h
  | v :: r, o, _, h => belSets hb r (o + 1) _ (h.setCell (p := ⟨b, o, none⟩) hb v)
theorem setsOther {b i : Nat} (hne : i ≠ b) : ∀ (vs : List Value) (o : Nat) (w : World), (w.setCells b o vs).heap[i]? = w.heap[i]?
  | [], _, _ => rfl
  | v :: r, o, w => (setsOther hne r (o + 1) (w.setCell ⟨b, o, none⟩ v)).trans (heap_setCell_other w ⟨b, o, none⟩ i v hne)
theorem setStep {w5 wr : World} {g n o : Nat} {L : List Value} (hG : w5.grownBy wr (some g)) (hth : wr.there g 0 n) : w5.grownBy (wr.setCells g o L) (some g) ∧ (wr.setCells g o L).there g 0 n := by
  have h := belSets (B := g) (b := g) (Nat.le_refl _) L o wr (Below.refl _ _)
  exact ⟨hG.trans ⟨h.os, h.tape, h.output, h.size, fun j _ hne => setsOther (fun e => hne (by rw [e])) _ _ _⟩, World.there_setCells hth _ _ _⟩
set_option maxRecDepth 20000 in
set_option maxHeartbeats 8000000 in
theorem keeps_no (f : Fm) (pp : Option Addr) (cp : Nat) (cs : List Cl) (pq : Option Addr) (cq : Nat) (w : World) (hr : TkL w pp w.heap.size f.toks) (hlm : f.toks.length * 192 ≤ 140737488351232) (kt : KT w) (mt : MT w) (hz : chkZ f ≠ none) :
    Calls Tryd.prog 3 #[fmV f pp cp, .slice pq cs.length cq] w fun r w' => r = .returned (.bool true) ∧ Below w.heap.size w w' := by
  have hF := fm_new w f pp cp
  have HB : Below w.heap.size w (w.alloc (fmO f pp cp)) := nbel _ _
  have HS : (w.alloc (fmO f pp cp)).heap.size = w.heap.size + 1 := World.size_alloc _ _
  generalize hW : w.alloc (fmO f pp cp) = W at hF HB HS
  simp only [fmO] at hW
  have cR := runs_any W (kt.up HB) (mt.below mt.pos HB)
  have F' : Hid (∀ X, Below W.heap.size W X → FmC X w.heap.size 0 f pp cp) := ⟨fun X hb => hF.below (by omega) hb⟩
  have hll : Hid (f.toks.length ≤ 733007751850) := ⟨by omega⟩
  clear hF
  replace HB : Hid _ := ⟨HB⟩
  replace HS : Hid _ := ⟨HS⟩
  replace hr : Hid _ := ⟨hr⟩
  replace kt : Hid _ := ⟨kt⟩
  replace mt : Hid _ := ⟨mt⟩
  replace hz : Hid _ := ⟨hz⟩
  replace hlm : Hid _ := ⟨hlm⟩
  go_enter Tryd.func3, Tryd.ntmps3
  go_upto_region 4 with (go_at_call 5; refine cR.mono ?_; rintro _ w1 ⟨rfl, hb1⟩; have hk := F'.out w1 hb1; have k0 := hk.c0; have k1 := hk.c1; have k2 := hk.c2; have k3 := hk.c3; have k4 := hk.c4; have k5 := hk.c5; have k6 := hk.c6; have k7 := hk.c7; have k8 := hk.c8; have k9 := hk.c9; have k10 := hk.c10; have k11 := hk.c11; have k12 := hk.c12; clear hk; simp only [Nat.zero_add] at k1 k2 k3 k4 k5 k6 k7 k8 k9 k10 k11 k12; replace hb1 : Hid _ := ⟨hb1⟩)
  clear k0 k1 k2 k3 k4 k5 k6 k7 k8 k9 k10 k11 k12
  have h2 : (w1.alloc (fmO { f with toks := [] } none 0)).heap[w1.heap.size]? = some (fmO { f with toks := [] } none 0) := heap_al _ _
  have b2 : Below W.heap.size W (w1.alloc (fmO { f with toks := [] } none 0)) := hb1.out.trans ((bel1 w1 _).mono hb1.out.size)
  have s2 : (w1.alloc (fmO { f with toks := [] } none 0)).heap.size = w1.heap.size + 1 := World.size_alloc _ _
  have sW := HS.out
  have s1 := hb1.out.size
  have t2 : TkRow (w1.alloc (fmO { f with toks := [] } none 0)) pp w.heap.size f.toks := hr.out.row.below (HB.out.trans (b2.mono (by omega)))
  generalize hW2 : w1.alloc (fmO { f with toks := [] } none 0) = W2 at h2 b2 s2 t2
  simp only [fmO] at hW2
  have b3 := bel1 W2 (.cells #[] 42)
  have k12 : (W2.alloc (.cells #[] 42)).cell? ⟨w.heap.size, 12, none⟩ = some (.slice pp f.toks.length cp) := (F'.out _ (b2.trans (b3.mono (by omega)))).c12
  have hap : Hid _ := ⟨t_cp (b := W2.heap.size) (g := W2.heap.size) (ca := cp) (Nat.le_refl _) (heap_al W2 (.cells #[] 42)) (t2.below (b3.mono (by omega))) hlm.out (by omega)⟩
  have G : Hid (∀ (w4 : World) (g' cap' : Nat), TOwn w4 w.heap.size W2.heap.size g' cap' f.toks → Below W2.heap.size (W2.alloc (.cells #[] 42)) w4 → _) := ⟨fun w4 g' cap' hO hb4 => mine_set h2 (by omega) hO (b3.trans hb4)⟩
  replace b2 : Hid _ := ⟨b2⟩
  replace s2 : Hid _ := ⟨s2⟩
  replace sW : Hid _ := ⟨sW⟩
  replace s1 : Hid _ := ⟨s1⟩
  clear h2 t2 b3
  go_upto_region 5 with (at_builtin; go_must (refine (ap_step (by rfl) _ _ _ _ (by rfl) _ _ (by rfl) (by rfl) _ hap.out ?_)); rintro v' w4 ⟨⟨g', cap', rfl, hO⟩, hb4⟩; obtain ⟨y0, y1, y2⟩ := G.out w4 g' cap' hO hb4; clear hO hb4)
  clear y0 y1 k12 hap G
  generalize w4.setCell ⟨w1.heap.size, 12, none⟩ (.slice (some ⟨g', 0, none⟩) f.toks.length cap') = W5 at y2
  obtain ⟨hk, hTO, hB5, hl5⟩ := y2.out
  clear y2
  have Z5 : Below W.heap.size W W5 := b2.out.trans (hB5.mono s1.out)
  have Bw5 : Below w.heap.size w W5 := HB.out.trans (Z5.mono HB.out.size)
  have F5 : Hid (∀ X, Below W5.heap.size W5 X → FmC X w1.heap.size 0 f (some ⟨g', 0, none⟩) cap') := ⟨fun X hb => hk.below hl5 hb⟩
  have hTL : TkL W5 (some ⟨g', 0, none⟩) W5.heap.size f.toks := ⟨hTO.row Bw5.size, by have := hlm.out; omega, hr.out.ok⟩
  have cN := New_no f (some ⟨g', 0, none⟩) cap' W5 (chkC_of f _ cap' W5 hTL (kt.out.up Bw5) (mt.out.below mt.out.pos Bw5)) hz.out
  have cN2 : Hid (∀ X, Below w.heap.size w X → _) := ⟨fun X hb => New_no f pp cp X (chkC_of f pp cp X ((hr.out.below hb).mono hb.size) (kt.out.up hb) (mt.out.below mt.out.pos hb)) hz.out⟩
  replace Z5 : Hid _ := ⟨Z5⟩
  replace Bw5 : Hid _ := ⟨Bw5⟩
  replace hTO : Hid _ := ⟨hTO⟩
  replace hl5 : Hid _ := ⟨hl5⟩
  have k0 := hk.c0; have k1 := hk.c1; have k2 := hk.c2; have k3 := hk.c3; have k4 := hk.c4; have k5 := hk.c5; have k6 := hk.c6; have k7 := hk.c7; have k8 := hk.c8; have k9 := hk.c9; have k10 := hk.c10; have k11 := hk.c11; have k12 := hk.c12; clear hk
  simp only [Nat.zero_add] at k1 k2 k3 k4 k5 k6 k7 k8 k9 k10 k11 k12
  clear hB5 hTL
  go_upto_region 7 with (go_at_call 6; refine cN.mono ?_; rintro _ w6 ⟨rfl, hb6⟩; have m12 := (F5.out w6 hb6).c12; replace hb6 : Hid _ := ⟨hb6⟩)
  clear k0 k1 k2 k3 k4 k5 k6 k7 k8 k9 k10 k11 k12
  clear cN m12
  go_loopw [46] (fun q wr => ∃ j : Nat, j ≤ f.toks.length ∧ q = .int .i64 (j : Int) ∧ Hid (Below w6.heap.size w6 wr)) (fun q _ => f.toks.length - (RowKit.intOf q).toNat)
  case atStart => exact ⟨0, Nat.zero_le _, by go_num, ⟨Below.refl _ _⟩⟩
  case round =>
    obtain ⟨j, hj, rfl, hI⟩ := hrel
    have hbW : Below W5.heap.size W5 wr := hb6.out.trans (hI.out.mono hb6.out.size)
    have zW := Z5.out.size
    by_cases hlt : j < f.toks.length
    · obtain ⟨t, ht⟩ : ∃ t, f.toks[j]? = some t := ⟨f.toks[j], List.getElem?_eq_getElem hlt⟩
      obtain ⟨pc, cc, hT, -, -⟩ := hTO.out.c j t ht
      obtain ⟨gf, ofs, pc2, cc2, rfl, hgf, hT2, -, -⟩ := hr.out.row.c j t ht
      have hT' := hT.below hTO.out.lt hbW
      have hT2' := hT2.below hgf (Bw5.out.trans (hbW.mono Bw5.out.size))
      have m12 := (F5.out wr hbW).c12
      have f12 := (F'.out wr (Z5.out.trans (hbW.mono zW))).c12
      have a0 := hT'.c0
      have a1 := hT'.c1
      have a20 := hT'.c20
      have b0 := hT2'.c0
      have b1 := hT2'.c1
      have b20 := hT2'.c20
      have hji : (j : Int) < f.toks.length := by omega
      have hB : Hid _ := ⟨hI.out⟩
      clear hT hT2 hT' hT2' ht hbW zW hI hgf
      go_upto_region 9 with fail
      go_quiet (fail)
      have hlb := hll.out
      go_wp2_with fail
      go_roundw
      case rel => exact ⟨j + 1, by omega, by go_num, ⟨tdr hB.out⟩⟩
      case measure => simp [RowKit.intOf]; omega
    · obtain rfl : j = f.toks.length := by omega
      have hk := F'.out wr (Z5.out.trans (hbW.mono zW))
      have k0 := hk.c0; have k1 := hk.c1; have k2 := hk.c2; have k3 := hk.c3; have k4 := hk.c4; have k5 := hk.c5; have k6 := hk.c6; have k7 := hk.c7; have k8 := hk.c8; have k9 := hk.c9; have k10 := hk.c10; have k11 := hk.c11; have k12 := hk.c12; clear hk
      simp only [Nat.zero_add] at k1 k2 k3 k4 k5 k6 k7 k8 k9 k10 k11 k12
      have w7b : Hid (Below w.heap.size w wr) := ⟨Bw5.out.trans (hbW.mono Bw5.out.size)⟩
      have F7 : Hid (∀ X, Below wr.heap.size wr X → FmC X w1.heap.size 0 f (some ⟨g', 0, none⟩) cap') := ⟨fun X hb => F5.out X (hbW.trans (hb.mono hbW.size))⟩
      have hbW' : Hid _ := ⟨hbW⟩
      have hI' : Hid _ := hI
      have d1 : decide ((f.toks.length : Int) < f.toks.length) = false := by simp
      clear hbW zW hI hlt hj
      go_upto_region 16 with (go_at_call 6; refine (cN2.out _ w7b.out).mono ?_; rintro _ w8 ⟨rfl, hb8⟩; have m12 := (F7.out w8 hb8).c12; replace hb8 : Hid _ := ⟨hb8⟩)
      clear k0 k1 k2 k3 k4 k5 k6 k7 k8 k9 k10 k11 k12
      have Z8 : Below W5.heap.size W5 w8 := hbW'.out.trans (hb8.out.mono hbW'.out.size)
      have ht8 : w8.there g' 0 (cap' * 21) := there_same hTO.out.th (Z8.block _ hTO.out.lt)
      have hob : Hid (∀ X, w8.grownBy X (some g') → X.cell? ⟨w1.heap.size, 12, none⟩ = some (.slice (some ⟨g', 0, none⟩) f.toks.length cap')) := ⟨fun X hX => by
        have e := F5.out w8 Z8
        have hge := hTO.out.ge
        have h1 := s2.out
        have h2 := Z8.size
        have h3 := hl5.out
        exact (cell_blk (hX.block w1.heap.size (by omega) (by intro e; injection e with e; omega))).trans e.c12⟩
      have hroom := hTO.out.room
      replace ht8 : Hid _ := ⟨ht8⟩
      replace Z8 : Hid _ := ⟨Z8⟩
      clear m12 d1
      go_loopw [118] (fun q wx => ∃ k : Nat, k ≤ f.toks.length ∧ q = .int .i64 (k : Int) ∧ w8.grownBy wx (some g') ∧ Hid (wx.there g' 0 (cap' * 21))) (fun q _ => f.toks.length - (RowKit.intOf q).toNat)
      case atStart => exact ⟨0, Nat.zero_le _, by go_num, ⟨rfl, rfl, rfl, Nat.le_refl _, fun _ _ _ => rfl⟩, ht8⟩
      case round =>
        obtain ⟨k, hk, rfl, hG, hth⟩ := hrel
        have x12 := hob.out _ hG
        by_cases hlt : k < f.toks.length
        · have hlt2 : (k : Int) < f.toks.length := by omega
          have htk : wr.there g' (k * 21) 21 := fun j hj => by
            have := hth.out (k * 21 + j) (by omega)
            rwa [Nat.zero_add] at this
          have s7 : Hid _ := ⟨run_storeAt_mid (P := Tryd.prog) wr g' (k * 21) 42 (tkC ⟨15, ⟨#[109, 97, 114, 107]⟩, 0, 0, 0, 0, 0, 0, 0, 0, 0, 0, [], 0, 0, 0, ⟨0, 0⟩, ⟨0, 0⟩, 0⟩ none 0).toArray htk infoTk (all_oneCell_toArray (tkC_one _ _ _))⟩
          replace hG : Hid _ := ⟨hG⟩
          have hlb := hll.out
          clear htk
          go_wp2_with (guard_target =~ wpList _ _ _ (Oper.mk _ (Op.store 42 _ _) _ _ _ _ :: _) _ _; go_must (refine wpList_st 42 (.tmp 125) (.tmp 124) rfl rfl _ _ rfl rfl s7.out ?_); simp only [pts])
          go_roundw
          case rel => exact ⟨k + 1, by omega, by go_num, (setStep hG.out hth.out).1, ⟨(setStep hG.out hth.out).2⟩⟩
          case measure => simp [RowKit.intOf]; omega
        · obtain rfl : k = f.toks.length := by omega
          have d1 : decide ((f.toks.length : Int) < f.toks.length) = false := by simp
          replace hG : Hid _ := ⟨hG⟩
          clear hk hlt x12
          go_wp2_with fail
          go_ret
          refine ⟨rfl, ?_⟩
          have e1 := Bw5.out.trans (Z8.out.mono Bw5.out.size)
          have e2 := hTO.out.ge
          have e3 := s2.out
          have e4 := s1.out
          have e5 := sW.out
          exact e1.trans ⟨hG.out.os, hG.out.tape, hG.out.output, hG.out.size, fun k hk => hG.out.block k (by have := e1.size; omega) (by intro e; injection e with e; omega)⟩
end Go.Proofs.YtepnmfgbflogkaaDoor

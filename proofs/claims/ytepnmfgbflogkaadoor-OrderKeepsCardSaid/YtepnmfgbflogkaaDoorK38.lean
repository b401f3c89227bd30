/- OsY, JMem. -/
import Derived.Test.YtepnmfgbflogkaaDoorK37
import Derived.Test.YtepnmfgbflogkaaDoorK14
import Derived.OpenShut
import Derived.Deep.RegionWith
import Derived.Deep.QuietTactic
namespace Go.Proofs.YtepnmfgbflogkaaDoor
open Go.ChangeShapes Go.WideShapes Go.ChangeAt Go.RowKit Go.Shelf Go.Maps

theorem K2.grown {f : Fm} {b lo hi g : Nat} {w w' : World} {a a' : Nat} {s s' : Ms} (h : K2 f b lo hi w a s a' s') (hg : lo ≤ g ∧ g < hi) (hG : w.grownBy w' (some g)) : K2 f b lo hi w' a s a' s' := by
  obtain ⟨U, V, h1, h2, h3, h4⟩ := h
  refine ⟨U, V, h1.same hG.size fun k hk => ?_, h2.same hG.size fun k hk => ?_, h3, h4⟩
  · exact hG.block k (h1.lt k hk) (fun e => (h4 k (.inl hk)).2 (by injection e with e; omega))
  · exact hG.block k (h2.lt k hk) (fun e => (h4 k (.inr hk)).2 (by injection e with e; omega))
/-- What stands since the round began at wr: the call's copy in the first new block. -/
structure RD (wr : World) (co : Obj) (X : World) : Prop where
  r : Below wr.heap.size wr X
  c : X.heap[wr.heap.size]? = some co
  l : wr.heap.size < X.heap.size
theorem RD.mk' (wr : World) (co : Obj) : RD wr co (wr.alloc co) := ⟨bel1 _ _, heap_al _ _, by rw [World.size_alloc]; omega⟩
theorem RD.up {wr X X' : World} {co : Obj} (h : RD wr co X) (hb : Below (wr.heap.size + 1) X X') : RD wr co X' :=
  ⟨h.r.trans (hb.mono (Nat.le_succ _)), (hb.block _ (Nat.lt_succ_self _)).trans h.c, Nat.lt_of_lt_of_le h.l hb.size⟩
theorem RD.below {wr X X' : World} {co : Obj} (h : RD wr co X) (hb : Below X.heap.size X X') : RD wr co X' := h.up (hb.mono h.l)
theorem NRow.ptr {W : World} {base n cp : Nat} {pp : Option Addr} {ns : List Nat} (h : NRow W base (.slice pp n cp) ns) (hn : 0 < n) : ∃ g, pp = some ⟨g, 0, none⟩ := by
  rcases h.2 with ⟨e0, _⟩ | ⟨g', cap', cur, e1, _⟩
  · cases e0
    omega
  · cases e1
    exact ⟨g', rfl⟩
theorem NRow.len {W : World} {base n cp : Nat} {pp : Option Addr} {ns : List Nat} (h : NRow W base (.slice pp n cp) ns) : n = ns.length := by
  obtain ⟨pp', cp', e, _⟩ := h.shape
  cases e
  rfl
theorem ovr_step {W : World} {base g c1 k : Nat} {ns : List Nat} (h : NRow W base (.slice (some ⟨g, 0, none⟩) ns.length c1) (ovr ns k)) (hk : k < ns.length) :
    NRow (W.setCell ⟨g, k, none⟩ (.int .i64 (1000 + (k : Int)))) base (.slice (some ⟨g, 0, none⟩) ns.length c1) (ovr ns (k + 1)) ∧ (∃ x, W.cell? ⟨g, k, none⟩ = some (.int .i64 x)) ∧ W.frozen? ⟨g, k, none⟩ = false ∧ base ≤ g ∧ g < W.heap.size := by
  have hl := ovr_length ns k (Nat.le_of_lt hk)
  rw [← hl] at h
  obtain ⟨h1, h2, h3, h4, h5⟩ := h.set k (1000 + k) (by omega)
  rw [ovr_succ ns k hk, ovr_length ns (k + 1) hk] at h1
  have e : ((1000 + k : Nat) : Int) = 1000 + (k : Int) := by omega
  rw [e] at h1
  exact ⟨h1, ⟨_, h2⟩, h3, h4, h5⟩
/-- The law's copies of what Left told: one written over up to k, one kept from block B on. -/
structure LK (wr : World) (co : Obj) (B : Nat) (p1 : Option Addr) (c1 : Nat) (p2 : Option Addr) (c2 : Nat) (ns : List Nat) (k : Nat) (Y : World) : Prop where
  rd : RD wr co Y
  a : NRow Y (wr.heap.size + 1) (.slice p1 ns.length c1) (ovr ns k)
  b : NRow Y B (.slice p2 ns.length c2) ns
  s : ∀ g, (Value.slice p1 ns.length c1).ownBlock = some g → g < B
  m : wr.heap.size + 1 ≤ B
theorem LK.below {wr : World} {co : Obj} {B : Nat} {p1 : Option Addr} {c1 : Nat} {p2 : Option Addr} {c2 : Nat} {ns : List Nat} {k : Nat} {Y Y' : World} (h : LK wr co B p1 c1 p2 c2 ns k Y) (hb : Below Y.heap.size Y Y') : LK wr co B p1 c1 p2 c2 ns k Y' :=
  ⟨h.rd.below hb, h.a.below hb, h.b.below hb, h.s, h.m⟩
theorem LK.set {wr : World} {co : Obj} {B g : Nat} {c1 : Nat} {p2 : Option Addr} {c2 : Nat} {ns : List Nat} {k : Nat} {Y : World} (h : LK wr co B (some ⟨g, 0, none⟩) c1 p2 c2 ns k Y) (hk : k < ns.length) :
    LK wr co B (some ⟨g, 0, none⟩) c1 p2 c2 ns (k + 1) (Y.setCell ⟨g, k, none⟩ (.int .i64 (1000 + (k : Int)))) := by
  obtain ⟨h1, h2, h3, h4, h5⟩ := ovr_step h.a hk
  have hg := h.s g rfl
  refine ⟨h.rd.up (Below.setCell (B := wr.heap.size + 1) (p := ⟨g, k, none⟩) (Below.refl _ _) h4 _), h1, own_keepP h.b fun j hj => ?_, h.s, h.m⟩
  have := (World.ownsRow.lt h.b j hj).1
  exact heap_setCell_other Y ⟨g, k, none⟩ j _ (by show j ≠ g; omega)
theorem LK.app {wr : World} {co : Obj} {B : Nat} {p1 : Option Addr} {c1 : Nat} {p2 : Option Addr} {c2 : Nat} {ns : List Nat} {Y : World} (h : LK wr co B p1 c1 p2 c2 ns ns.length Y) (hl : ns.length ≤ 1000000) :
    ∃ v' w', (∀ ty, (Builtin.append_ #[47, 47] ty #[.slice p1 ns.length c1, .slice (some ⟨Y.heap.size, 0, none⟩) 1 1]).run Tryd.prog (Y.alloc (.cells #[.int .i64 5] 3)) = .ok v' w') ∧ ((∃ p3 c3, v' = .slice p3 (ns.length + 1) c3) ∧ LK wr co B p1 c1 p2 c2 ns ns.length w') := by
  obtain ⟨v', w', h1, h2, h3, h4, h5⟩ := n_ap5 5 h.a (by rw [ovr_length ns _ (Nat.le_refl _)]; exact hl) h.rd.l
  refine ⟨v', w', h1, ?_, h.rd.up h4, h3, own_keepP h.b fun j hj => ?_, h.s, h.m⟩
  · obtain ⟨p3, c3, rfl, -⟩ := h2.shape
    rw [List.length_append, ovr_length ns _ (Nat.le_refl _)]
    exact ⟨p3, c3, rfl⟩
  · have e1 := World.ownsRow.lt h.b j hj
    exact h5 j e1.2 fun e => by have := h.s j e; omega
/-- Behind a step. -/
theorem LK.kf {wr : World} {co : Obj} {B : Nat} {p1 : Option Addr} {c1 : Nat} {p2 : Option Addr} {c2 : Nat} {ns : List Nat} {k b hi : Nat} {Y Y' : World} (h : LK wr co B p1 c1 p2 c2 ns k Y) (hb : Kf b wr.heap.size hi Y Y') (hh : Y.heap.size ≤ hi) :
    NRow Y' (wr.heap.size + 1) (.slice p1 ns.length c1) (ovr ns k) ∧ NRow Y' B (.slice p2 ns.length c2) ns := by
  refine ⟨own_keepP h.a fun j hj => ?_, own_keepP h.b fun j hj => ?_⟩
  · have e := World.ownsRow.lt h.a j hj
    exact hb.r j (by omega) (by omega)
  · have e := World.ownsRow.lt h.b j hj
    have := h.m
    exact hb.r j (by omega) (by omega)
/-- Behind the two steps. -/
structure PS (f : Fm) (w : World) (a b : Nat) (s : Ms) (wo : World) (B : Nat) (p1 : Option Addr) (c1 : Nat) (p2 : Option Addr) (c2 : Nat) (ns : List Nat) (X : World) : Prop where
  k : K2 f w.heap.size 0 0 X a s b s
  bw : Below w.heap.size w X
  l : NRow X (wo.heap.size + 1) (.slice p1 ns.length c1) (ovr ns ns.length)
  r : NRow X B (.slice p2 ns.length c2) ns
theorem PS.below {f : Fm} {w : World} {a b : Nat} {s : Ms} {wo : World} {B : Nat} {p1 : Option Addr} {c1 : Nat} {p2 : Option Addr} {c2 : Nat} {ns : List Nat} {X X' : World} (h : PS f w a b s wo B p1 c1 p2 c2 ns X) (hb : Below X.heap.size X X') : PS f w a b s wo B p1 c1 p2 c2 ns X' :=
  ⟨h.k.below hb, h.bw.trans (hb.mono h.bw.size), h.l.below hb, h.r.below hb⟩
theorem PS.cell {f : Fm} {w : World} {a b : Nat} {s : Ms} {wo : World} {B g : Nat} {c1 : Nat} {p2 : Option Addr} {c2 : Nat} {ns : List Nat} {X : World} (h : PS f w a b s wo B (some ⟨g, 0, none⟩) c1 p2 c2 ns X) (k : Nat) (hk : k < ns.length) : X.cell? ⟨g, k, none⟩ = some (.int .i64 (1000 + (k : Int))) := by
  obtain ⟨pp', cp', e, h2⟩ := h.l.shape
  injection e with e1 e2 e3
  subst e1
  obtain ⟨g', e', -, hc⟩ := h2 k (1000 + k) (ovr_get ns k hk)
  cases e'
  have e : ((1000 + k : Nat) : Int) = 1000 + (k : Int) := by omega
  rw [e] at hc
  exact hc
set_option maxRecDepth 20000 in
set_option maxHeartbeats 8000000 in
theorem keeps_ok (f : Fm) (pp : Option Addr) (cp : Nat) (cs : List Cl) (pq : Option Addr) (cq : Nat) (w : World) (hr : TkL w pp w.heap.size f.toks) (hlm : f.toks.length * 192 ≤ 140737488351232) (kt : KT w) (mt : MT w) (hz : chkZ f = none) (hq : CRow w pq w.heap.size cs) (hql : cs.length ≤ 2000000000000) :
    Calls Tryd.prog 3 #[fmV f pp cp, .slice pq cs.length cq] w fun r w' => r = .returned (.bool true) ∧ Below w.heap.size w w' := by
  have hF := fm_new w f pp cp
  have HB : Below w.heap.size w (w.alloc (fmO f pp cp)) := nbel _ _
  have HS : (w.alloc (fmO f pp cp)).heap.size = w.heap.size + 1 := World.size_alloc _ _
  generalize hW : w.alloc (fmO f pp cp) = W at hF HB HS
  simp only [fmO] at hW
  have cR := runs_any W (kt.up HB) (mt.below mt.pos HB)
  have F' : Hid (∀ X, Below W.heap.size W X → FmC X w.heap.size 0 f pp cp) := ⟨fun X hb => hF.below (by omega) hb⟩
  have hll : Hid (f.toks.length ≤ 733007751850) := ⟨by omega⟩
  clear hF
  replace HB : Hid _ := ⟨HB⟩
  replace HS : Hid _ := ⟨HS⟩
  replace hr : Hid _ := ⟨hr⟩
  replace kt : Hid _ := ⟨kt⟩
  replace mt : Hid _ := ⟨mt⟩
  replace hz : Hid _ := ⟨hz⟩
  replace hlm : Hid _ := ⟨hlm⟩
  replace hq : Hid _ := ⟨hq⟩
  replace hql : Hid _ := ⟨hql⟩
  go_enter Tryd.func3, Tryd.ntmps3
  go_upto_region 4 with (go_at_call 5; refine cR.mono ?_; rintro _ w1 ⟨rfl, hb1⟩; have hk := F'.out w1 hb1; have k0 := hk.c0; have k1 := hk.c1; have k2 := hk.c2; have k3 := hk.c3; have k4 := hk.c4; have k5 := hk.c5; have k6 := hk.c6; have k7 := hk.c7; have k8 := hk.c8; have k9 := hk.c9; have k10 := hk.c10; have k11 := hk.c11; have k12 := hk.c12; clear hk; simp only [Nat.zero_add] at k1 k2 k3 k4 k5 k6 k7 k8 k9 k10 k11 k12; replace hb1 : Hid _ := ⟨hb1⟩)
  clear k0 k1 k2 k3 k4 k5 k6 k7 k8 k9 k10 k11 k12
  have h2 : (w1.alloc (fmO { f with toks := [] } none 0)).heap[w1.heap.size]? = some (fmO { f with toks := [] } none 0) := heap_al _ _
  have b2 : Below W.heap.size W (w1.alloc (fmO { f with toks := [] } none 0)) := hb1.out.trans ((bel1 w1 _).mono hb1.out.size)
  have s2 : (w1.alloc (fmO { f with toks := [] } none 0)).heap.size = w1.heap.size + 1 := World.size_alloc _ _
  have sW := HS.out
  have s1 := hb1.out.size
  have t2 : TkRow (w1.alloc (fmO { f with toks := [] } none 0)) pp w.heap.size f.toks := hr.out.row.below (HB.out.trans (b2.mono (by omega)))
  generalize hW2 : w1.alloc (fmO { f with toks := [] } none 0) = W2 at h2 b2 s2 t2
  simp only [fmO] at hW2
  have b3 := bel1 W2 (.cells #[] 42)
  have k12 : (W2.alloc (.cells #[] 42)).cell? ⟨w.heap.size, 12, none⟩ = some (.slice pp f.toks.length cp) := (F'.out _ (b2.trans (b3.mono (by omega)))).c12
  have hap : Hid _ := ⟨t_cp (b := W2.heap.size) (g := W2.heap.size) (ca := cp) (Nat.le_refl _) (heap_al W2 (.cells #[] 42)) (t2.below (b3.mono (by omega))) hlm.out (by omega)⟩
  have G : Hid (∀ (w4 : World) (g' cap' : Nat), TOwn w4 w.heap.size W2.heap.size g' cap' f.toks → Below W2.heap.size (W2.alloc (.cells #[] 42)) w4 → _) := ⟨fun w4 g' cap' hO hb4 => mine_set h2 (by omega) hO (b3.trans hb4)⟩
  replace b2 : Hid _ := ⟨b2⟩
  replace s2 : Hid _ := ⟨s2⟩
  replace sW : Hid _ := ⟨sW⟩
  replace s1 : Hid _ := ⟨s1⟩
  clear h2 t2 b3
  go_upto_region 5 with (at_builtin; go_must (refine (ap_step (by rfl) _ _ _ _ (by rfl) _ _ (by rfl) (by rfl) _ hap.out ?_)); rintro v' w4 ⟨⟨g', cap', rfl, hO⟩, hb4⟩; obtain ⟨y0, y1, y2⟩ := G.out w4 g' cap' hO hb4; clear hO hb4)
  clear y0 y1 k12 hap G
  generalize w4.setCell ⟨w1.heap.size, 12, none⟩ (.slice (some ⟨g', 0, none⟩) f.toks.length cap') = W5 at y2
  obtain ⟨hk, hTO, hB5, hl5⟩ := y2.out
  clear y2
  have Z5 : Below W.heap.size W W5 := b2.out.trans (hB5.mono s1.out)
  have Bw5 : Below w.heap.size w W5 := HB.out.trans (Z5.mono HB.out.size)
  have F5 : Hid (∀ X, Below W5.heap.size W5 X → FmC X w1.heap.size 0 f (some ⟨g', 0, none⟩) cap') := ⟨fun X hb => hk.below hl5 hb⟩
  have hTL : TkL W5 (some ⟨g', 0, none⟩) W5.heap.size f.toks := ⟨hTO.row Bw5.size, by have := hlm.out; omega, hr.out.ok⟩
  have cN := New_mc f (some ⟨g', 0, none⟩) cap' W5 (chkC_of f _ cap' W5 hTL (kt.out.up Bw5) (mt.out.below mt.out.pos Bw5)) hTL hz.out
  have cN2 : Hid (∀ X, Below w.heap.size w X → _) := ⟨fun X hb => New_mc f pp cp X (chkC_of f pp cp X ((hr.out.below hb).mono hb.size) (kt.out.up hb) (mt.out.below mt.out.pos hb)) ((hr.out.below hb).mono hb.size) hz.out⟩
  replace Z5 : Hid _ := ⟨Z5⟩
  replace Bw5 : Hid _ := ⟨Bw5⟩
  replace hTO : Hid _ := ⟨hTO⟩
  replace hl5 : Hid _ := ⟨hl5⟩
  have k0 := hk.c0; have k1 := hk.c1; have k2 := hk.c2; have k3 := hk.c3; have k4 := hk.c4; have k5 := hk.c5; have k6 := hk.c6; have k7 := hk.c7; have k8 := hk.c8; have k9 := hk.c9; have k10 := hk.c10; have k11 := hk.c11; have k12 := hk.c12; clear hk
  simp only [Nat.zero_add] at k1 k2 k3 k4 k5 k6 k7 k8 k9 k10 k11 k12
  clear hB5 hTL
  go_upto_region 7 with (go_at_call 6; refine cN.mono ?_; rintro _ w6 ⟨a, rfl, hMa, hb6⟩; have m12 := (F5.out w6 hb6).c12; replace hb6 : Hid _ := ⟨hb6⟩; replace hMa : Hid _ := ⟨hMa⟩)
  clear k0 k1 k2 k3 k4 k5 k6 k7 k8 k9 k10 k11 k12
  clear cN m12
  go_loopw [46] (fun q wr => ∃ j : Nat, j ≤ f.toks.length ∧ q = .int .i64 (j : Int) ∧ Hid (Below w6.heap.size w6 wr)) (fun q _ => f.toks.length - (RowKit.intOf q).toNat)
  case atStart => exact ⟨0, Nat.zero_le _, by go_num, ⟨Below.refl _ _⟩⟩
  case round =>
    obtain ⟨j, hj, rfl, hI⟩ := hrel
    have hbW : Below W5.heap.size W5 wr := hb6.out.trans (hI.out.mono hb6.out.size)
    have zW := Z5.out.size
    by_cases hlt : j < f.toks.length
    · obtain ⟨t, ht⟩ : ∃ t, f.toks[j]? = some t := ⟨f.toks[j], List.getElem?_eq_getElem hlt⟩
      obtain ⟨pc, cc, hT, -, -⟩ := hTO.out.c j t ht
      obtain ⟨gf, ofs, pc2, cc2, rfl, hgf, hT2, -, -⟩ := hr.out.row.c j t ht
      have hT' := hT.below hTO.out.lt hbW
      have hT2' := hT2.below hgf (Bw5.out.trans (hbW.mono Bw5.out.size))
      have m12 := (F5.out wr hbW).c12
      have f12 := (F'.out wr (Z5.out.trans (hbW.mono zW))).c12
      have a0 := hT'.c0
      have a1 := hT'.c1
      have a20 := hT'.c20
      have b0 := hT2'.c0
      have b1 := hT2'.c1
      have b20 := hT2'.c20
      have hji : (j : Int) < f.toks.length := by omega
      have hB : Hid _ := ⟨hI.out⟩
      clear hT hT2 hT' hT2' ht hbW zW hI hgf
      go_upto_region 9 with fail
      go_quiet (fail)
      have hlb := hll.out
      go_wp2_with fail
      go_roundw
      case rel => exact ⟨j + 1, by omega, by go_num, ⟨tdr hB.out⟩⟩
      case measure => simp [RowKit.intOf]; omega
    · obtain rfl : j = f.toks.length := by omega
      have hk := F'.out wr (Z5.out.trans (hbW.mono zW))
      have k0 := hk.c0; have k1 := hk.c1; have k2 := hk.c2; have k3 := hk.c3; have k4 := hk.c4; have k5 := hk.c5; have k6 := hk.c6; have k7 := hk.c7; have k8 := hk.c8; have k9 := hk.c9; have k10 := hk.c10; have k11 := hk.c11; have k12 := hk.c12; clear hk
      simp only [Nat.zero_add] at k1 k2 k3 k4 k5 k6 k7 k8 k9 k10 k11 k12
      have w7b : Hid (Below w.heap.size w wr) := ⟨Bw5.out.trans (hbW.mono Bw5.out.size)⟩
      have F7 : Hid (∀ X, Below wr.heap.size wr X → FmC X w1.heap.size 0 f (some ⟨g', 0, none⟩) cap') := ⟨fun X hb => F5.out X (hbW.trans (hb.mono hbW.size))⟩
      have hbW' : Hid _ := ⟨hbW⟩
      have hI' : Hid _ := hI
      have d1 : decide ((f.toks.length : Int) < f.toks.length) = false := by simp
      clear hbW zW hI hlt hj
      go_upto_region 16 with (go_at_call 6; refine (cN2.out _ w7b.out).mono ?_; rintro _ w8 ⟨b, rfl, hMb, hb8⟩; have m12 := (F7.out w8 hb8).c12; replace hb8 : Hid _ := ⟨hb8⟩; replace hMb : Hid _ := ⟨hMb⟩)
      clear k0 k1 k2 k3 k4 k5 k6 k7 k8 k9 k10 k11 k12
      have Z8 : Below W5.heap.size W5 w8 := hbW'.out.trans (hb8.out.mono hbW'.out.size)
      have ht8 : w8.there g' 0 (cap' * 21) := there_same hTO.out.th (Z8.block _ hTO.out.lt)
      have hob : Hid (∀ X, w8.grownBy X (some g') → X.cell? ⟨w1.heap.size, 12, none⟩ = some (.slice (some ⟨g', 0, none⟩) f.toks.length cap')) := ⟨fun X hX => by
        have e := F5.out w8 Z8
        have hge := hTO.out.ge
        have h1 := s2.out
        have h2 := Z8.size
        have h3 := hl5.out
        exact (cell_blk (hX.block w1.heap.size (by omega) (by intro e; injection e with e; omega))).trans e.c12⟩
      have hroom := hTO.out.room
      have hK8 : Hid (K2 f w.heap.size g' (g' + 1) w8 a newZ b newZ) := ⟨by
        have h1 := hI'.out.size
        have h2 := hTO.out.lt
        have h3 := Bw5.out.size
        have h4 := hb6.out.size
        refine ⟨_, _, (hMa.out.below hI'.out).below hb8.out, hMb.out, fun k hu hv => ?_, fun k hk => ?_⟩
        · have h5 := hu.2
          have h6 := hv.1
          omega
        · rcases hk with hk | hk
          · have h5 := hk.1
            exact ⟨by omega, by omega⟩
          · have h5 := hk.1
            exact ⟨by omega, by omega⟩⟩
      replace ht8 : Hid _ := ⟨ht8⟩
      replace Z8 : Hid _ := ⟨Z8⟩
      clear m12 d1
      go_loopw [118] (fun q wx => ∃ k : Nat, k ≤ f.toks.length ∧ q = .int .i64 (k : Int) ∧ w8.grownBy wx (some g') ∧ Hid (wx.there g' 0 (cap' * 21))) (fun q _ => f.toks.length - (RowKit.intOf q).toNat)
      case atStart => exact ⟨0, Nat.zero_le _, by go_num, ⟨rfl, rfl, rfl, Nat.le_refl _, fun _ _ _ => rfl⟩, ht8⟩
      case round =>
        obtain ⟨k, hk, rfl, hG, hth⟩ := hrel
        have x12 := hob.out _ hG
        by_cases hlt : k < f.toks.length
        · have hlt2 : (k : Int) < f.toks.length := by omega
          have htk : wr.there g' (k * 21) 21 := fun j hj => by
            have := hth.out (k * 21 + j) (by omega)
            rwa [Nat.zero_add] at this
          have s7 : Hid _ := ⟨run_storeAt_mid (P := Tryd.prog) wr g' (k * 21) 42 (tkC ⟨15, ⟨#[109, 97, 114, 107]⟩, 0, 0, 0, 0, 0, 0, 0, 0, 0, 0, [], 0, 0, 0, ⟨0, 0⟩, ⟨0, 0⟩, 0⟩ none 0).toArray htk infoTk (all_oneCell_toArray (tkC_one _ _ _))⟩
          replace hG : Hid _ := ⟨hG⟩
          have hlb := hll.out
          clear htk
          go_wp2_with (guard_target =~ wpList _ _ _ (Oper.mk _ (Op.store 42 _ _) _ _ _ _ :: _) _ _; go_must (refine wpList_st 42 (.tmp 125) (.tmp 124) rfl rfl _ _ rfl rfl s7.out ?_); simp only [pts])
          go_roundw
          case rel => exact ⟨k + 1, by omega, by go_num, (setStep hG.out hth.out).1, ⟨(setStep hG.out hth.out).2⟩⟩
          case measure => simp [RowKit.intOf]; omega
        · obtain rfl : k = f.toks.length := by omega
          have d1 : decide ((f.toks.length : Int) < f.toks.length) = false := by simp
          replace hG : Hid _ := ⟨hG⟩
          clear hk hlt x12
          have hK : Hid (K2 f w.heap.size 0 0 wr a newZ b newZ) := ⟨(hK8.out.grown ⟨Nat.le_refl _, Nat.lt_succ_self _⟩ hG.out).loose⟩
          have hBw : Hid (Below w.heap.size w wr) := ⟨by
            have e1 := Bw5.out.trans (Z8.out.mono Bw5.out.size)
            have e2 := hTO.out.ge
            have e3 := s2.out
            have e4 := s1.out
            have e5 := sW.out
            exact e1.trans ⟨hG.out.os, hG.out.tape, hG.out.output, hG.out.size, fun k hk => hG.out.block k (by have := e1.size; omega) (by intro e; injection e with e; omega)⟩⟩
          clear hG hK8 hth hob ht8 hroom Z8 hbW' hI' hMa hMb hb8 hb6 F5 F7 w7b cN2 hTO Z5 Bw5 hl5 s2 s1 sW b2 hb1 F' cR HB HS hW hW2
          go_upto_region 23 with fail
          go_loopw [131] (fun q wy => ∃ (j : Nat) (s : Ms), j ≤ cs.length ∧ q = .int .i64 (j : Int) ∧ Hid (K2 f w.heap.size 0 0 wy a s b s ∧ Below w.heap.size w wy)) (fun q _ => cs.length - (RowKit.intOf q).toNat)
          case atStart => exact ⟨0, newZ, Nat.zero_le _, by go_num, ⟨hK.out, hBw.out⟩⟩
          case round =>
            clear hK hBw
            obtain ⟨wo, rfl⟩ : ∃ wo, wo = wr := ⟨_, rfl⟩
            obtain ⟨j, s, hj, rfl, hI⟩ := hrel
            have hK : Hid _ := ⟨hI.out.1⟩
            have hB : Hid _ := ⟨hI.out.2⟩
            clear hI
            by_cases hlt : j < cs.length
            · obtain ⟨c, hc⟩ : ∃ c, cs[j]? = some c := ⟨cs[j], List.getElem?_eq_getElem hlt⟩
              obtain ⟨gq, oq, rfl, hgq, c0, c1, c2, c3, c4⟩ := (hq.out.below hB.out).c j c hc
              obtain ⟨hco, hnm, pw, nw, mw, hws⟩ := hq.out.ok c (List.mem_of_getElem? hc)
              obtain ⟨ck, nm, ws, cnt, tx⟩ := c
              simp only at c0 c1 c2 c3 c4 hco hnm hws
              subst hws
              have hji : (j : Int) < cs.length := by omega
              have hjb : (j : Int) < 2000000000000 := by have := hql.out; omega
              replace hco : Hid _ := ⟨hco⟩
              replace hnm : Hid _ := ⟨hnm⟩
              clear hc hgq
              by_cases h300 : 300 ≤ j
              · have d3 : decide ((300 : Int) ≤ (j : Int)) = true := by simp; omega
                go_upto_region 48 with fail
                replace hK : Hid (K2 f w.heap.size 0 0 (wo.alloc (caO ⟨ck, nm, .slice pw nw mw, cnt, tx⟩)) a s b s) := ⟨hK.out.below (bel1 _ _)⟩
                replace hB : Hid (Below w.heap.size w (wo.alloc (caO ⟨ck, nm, .slice pw nw mw, cnt, tx⟩))) := ⟨hB.out.trans ((bel1 _ _).mono hB.out.size)⟩
                generalize wo.alloc (caO ⟨ck, nm, .slice pw nw mw, cnt, tx⟩) = X at hK hB
                clear c0 c1 c2 c3 c4 d3 hji
                have F1 : True := trivial
                have F2 : True := trivial
                have F3 : True := trivial
                go_wp2_with (first
  | (go_at_call 7; clear F1; refine hK.out.doneA.mono ?_; rintro _ w9 ⟨rfl, hb9⟩; replace hK : Hid (K2 f w.heap.size 0 0 w9 a s b s) := ⟨hK.out.below hb9⟩; replace hB : Hid (Below w.heap.size w w9) := ⟨hB.out.trans (hb9.mono hB.out.size)⟩; clear hb9)
  | (go_at_call 7; refine hK.out.doneB.mono ?_; rintro _ w9 ⟨rfl, hb9⟩; replace hK : Hid (K2 f w.heap.size 0 0 w9 a s b s) := ⟨hK.out.below hb9⟩; replace hB : Hid (Below w.heap.size w w9) := ⟨hB.out.trans (hb9.mono hB.out.size)⟩; clear hb9)
  | (go_at_call 8; clear F2; refine hK.out.insA.mono ?_; rintro _ w9 ⟨rfl, hb9⟩; replace hK : Hid (K2 f w.heap.size 0 0 w9 a s b s) := ⟨hK.out.below hb9⟩; replace hB : Hid (Below w.heap.size w w9) := ⟨hB.out.trans (hb9.mono hB.out.size)⟩; clear hb9)
  | (go_at_call 8; refine hK.out.insB.mono ?_; rintro _ w9 ⟨rfl, hb9⟩; replace hK : Hid (K2 f w.heap.size 0 0 w9 a s b s) := ⟨hK.out.below hb9⟩; replace hB : Hid (Below w.heap.size w w9) := ⟨hB.out.trans (hb9.mono hB.out.size)⟩; clear hb9)
  | (go_at_call 9; clear F3; refine hK.out.leftA.mono ?_; rintro _ w9 ⟨p1, c1, rfl, hN1, hb9⟩; have hs1 : Hid _ := ⟨hN1.nsl⟩; replace hK : Hid (K2 f w.heap.size 0 0 w9 a s b s) := ⟨hK.out.below hb9⟩; replace hB : Hid (Below w.heap.size w w9) := ⟨hB.out.trans (hb9.mono hB.out.size)⟩; clear hb9 hN1)
  | (go_at_call 9; refine hK.out.leftB.mono ?_; rintro _ w9 ⟨p2, c2, rfl, hN2, hb9⟩; have hs2 : Hid _ := ⟨hN2.nsl⟩; replace hs1 : Hid _ := ⟨hs1.out.below hb9⟩; replace hK : Hid (K2 f w.heap.size 0 0 w9 a s b s) := ⟨hK.out.below hb9⟩; replace hB : Hid (Below w.heap.size w w9) := ⟨hB.out.trans (hb9.mono hB.out.size)⟩; clear hb9 hN2)
  | (go_at_call 10; refine (sameInts_any (lfZ s) (lfZ s) p1 p2 c1 c2 _ hs1.out hs2.out (Nat.le_trans (lfZ_le hK.out.ok) (by decide))).mono ?_; rintro _ w9 ⟨rfl, hb9⟩; replace hK : Hid (K2 f w.heap.size 0 0 w9 a s b s) := ⟨hK.out.below hb9⟩; replace hB : Hid (Below w.heap.size w w9) := ⟨hB.out.trans (hb9.mono hB.out.size)⟩; clear hb9))
                go_ret
                exact ⟨rfl, hB.out⟩
              · have d3 : decide ((300 : Int) ≤ (j : Int)) = false := by simp; omega
                go_upto_region 26 with fail
                have hRD : Hid (RD wo (caO ⟨ck, nm, .slice pw nw mw, cnt, tx⟩) (wo.alloc (caO ⟨ck, nm, .slice pw nw mw, cnt, tx⟩))) := ⟨RD.mk' _ _⟩
                generalize wo.alloc (caO ⟨ck, nm, .slice pw nw mw, cnt, tx⟩) = X at hRD
                clear c0 c1 c2 c3 c4 d3 hji
                go_upto_region 27 with (first
                  | (go_at_call 7; refine (hK.out.below hRD.out.r).doneA.mono ?_; rintro _ w9 ⟨rfl, hb9⟩; replace hRD : Hid (RD wo (caO ⟨ck, nm, .slice pw nw mw, cnt, tx⟩) w9) := ⟨hRD.out.below hb9⟩; clear hb9)
                  | (go_at_call 8; refine (hK.out.below hRD.out.r).insA.mono ?_; rintro _ w9 ⟨rfl, hb9⟩; replace hRD : Hid (RD wo (caO ⟨ck, nm, .slice pw nw mw, cnt, tx⟩) w9) := ⟨hRD.out.below hb9⟩; clear hb9)
                  | (go_at_call 9; refine (hK.out.below hRD.out.r).leftA.mono ?_; rintro _ w9 ⟨p1, c1, rfl, hN1, hb9⟩; have hN : Hid (NRow w9 (wo.heap.size + 1) (.slice p1 (lfZ s).length c1) (lfZ s)) := ⟨hN1.low hRD.out.l⟩; replace hRD : Hid (RD wo (caO ⟨ck, nm, .slice pw nw mw, cnt, tx⟩) w9) := ⟨hRD.out.below hb9⟩; clear hb9 hN1))
                have hle : Hid ((lfZ s).length ≤ 65536) := ⟨lfZ_le hK.out.ok⟩
                have hap : Hid _ := ⟨n_cp (b := w9.heap.size) (g := w9.heap.size) (Nat.le_refl _) (heap_al w9 (.cells #[] 3)) (hN.out.below (bel1 w9 _)) (Nat.le_trans hle.out (by decide))⟩
                have G : Hid (∀ v' Y, NRow Y w9.heap.size v' (lfZ s) → Below w9.heap.size (w9.alloc (.cells #[] 3)) Y → ∃ p2 c2, v' = .slice p2 (lfZ s).length c2 ∧ LK wo (caO ⟨ck, nm, .slice pw nw mw, cnt, tx⟩) w9.heap.size p1 c1 p2 c2 (lfZ s) 0 Y) := ⟨fun v' Y h1 h2 => by
                  obtain ⟨p2, c2, rfl, -⟩ := h1.shape
                  have hb := (bel1 w9 (.cells #[] 3)).trans h2
                  exact ⟨p2, c2, rfl, hRD.out.below hb, by rw [ovr_zero]; exact hN.out.below hb, h1, fun g hg => (World.ownsRow.lt hN.out g hg).2, hRD.out.l⟩⟩
                clear hN
                go_upto_region 29 with (at_builtin; go_must (refine (ap_step (by rfl) _ _ _ _ (by rfl) _ _ (by rfl) (by rfl) _ hap.out ?_)); rintro v' Y ⟨q1, q2⟩; obtain ⟨p2, c2, rfl, hLK⟩ := G.out v' Y q1 q2; replace hLK : Hid _ := ⟨hLK⟩; clear q1 q2)
                clear hap G
                go_loopw [149] (fun q wy => ∃ k : Nat, k ≤ (lfZ s).length ∧ q = .int .i64 (k : Int) ∧ Hid (LK wo (caO ⟨ck, nm, .slice pw nw mw, cnt, tx⟩) w9.heap.size p1 c1 p2 c2 (lfZ s) k wy)) (fun q _ => (lfZ s).length - (RowKit.intOf q).toNat)
                case atStart => exact ⟨0, Nat.zero_le _, by go_num, hLK⟩
                case round =>
                  clear hLK
                  obtain ⟨k, hk, rfl, hLK⟩ := hrel
                  have hle' := hle.out
                  by_cases hkl : k < (lfZ s).length
                  · obtain ⟨gl, rfl⟩ := hLK.out.a.ptr (by omega)
                    obtain ⟨-, ⟨x0, x1⟩, x2, -, -⟩ := ovr_step hLK.out.a hkl
                    have hki : (k : Int) < (lfZ s).length := by omega
                    have hkb : (k : Int) < 65536 := by omega
                    go_wp2_with fail
                    go_roundw
                    case rel => exact ⟨k + 1, by omega, by go_num, ⟨hLK.out.set hkl⟩⟩
                    case measure => simp [RowKit.intOf]; omega
                  · obtain rfl : k = (lfZ s).length := by omega
                    have hap : Hid _ := ⟨hLK.out.app (Nat.le_trans hle.out (by decide))⟩
                    have d4 : decide (((lfZ s).length : Int) < (lfZ s).length) = false := by simp
                    clear hLK hkl hk
                    go_upto_region 34 with (at_builtin; go_must (refine (ap_step (by rfl) _ _ _ _ (by rfl) _ _ (by rfl) (by rfl) _ hap.out ?_)); rintro v' Z ⟨⟨p3, c3, rfl⟩, hLK⟩; replace hLK : Hid _ := ⟨hLK⟩)
                    clear hap d4
                    have hsum : ((((lfZ s).length + 1 : Nat) : Int) != ((lfZ s).length : Int) + 1) = false := by simp
                    go_upto_region 36 with (first
                      | (go_at_call 9; refine (hK.out.below hLK.out.rd.r).leftA.mono ?_; rintro _ wb ⟨p4, c4, rfl, hN4, hb9⟩; replace hN4 : Hid _ := ⟨hN4.nsl⟩; replace hLK : Hid _ := ⟨hLK.out.below hb9⟩; clear hb9)
                      | (go_at_call 10; refine (sameInts_any (lfZ s) (lfZ s) p4 p2 c4 c2 _ hN4.out hLK.out.b.nsl (Nat.le_trans hle.out (by decide))).mono ?_; rintro _ wc ⟨rfl, hb9⟩; replace hLK : Hid _ := ⟨hLK.out.below hb9⟩; clear hb9 hN4))
                    clear hsum
                    obtain ⟨R, hR⟩ : ∃ R, stepZ f.toks s ck cnt nm = R := ⟨_, rfl⟩
                    have hErr : Hid (R.1 ≠ 0 → R.2 = s) := ⟨by rw [← hR]; exact stepZ_err _ _ _ _ _⟩
                    have hwb : w.heap.size ≤ wc.heap.size := Nat.le_trans hB.out.size hLK.out.rd.r.size
                    have cA : Calls Tryd.prog 11 #[.pointer (some ⟨a, 0, none⟩), caV ⟨ck, nm, .slice pw nw mw, cnt, tx⟩] wc fun r w' => r = .returned (.int .i64 R.1) ∧ K2 f w.heap.size wo.heap.size wc.heap.size w' a R.2 b s ∧ Kf w.heap.size wo.heap.size wc.heap.size wc w' := by
                      rw [← hR]
                      exact (hK.out.mark hLK.out.rd.r wc.heap.size).stepA hz.out hll.out ⟨ck, nm, .slice pw nw mw, cnt, tx⟩ hwb (Nat.le_refl _) hco.out hnm.out
                    have cB : Hid (∀ X, K2 f w.heap.size wo.heap.size wc.heap.size X a R.2 b s → Kf w.heap.size wo.heap.size wc.heap.size wc X → Calls Tryd.prog 11 #[.pointer (some ⟨b, 0, none⟩), caV ⟨ck, nm, .slice pw nw mw, cnt, tx⟩] X fun r w' => r = .returned (.int .i64 R.1) ∧ PS f w a b R.2 wo w9.heap.size p1 c1 p2 c2 (lfZ s) w') := ⟨fun X hX hkf => by
                      have := hX.stepB hz.out hll.out ⟨ck, nm, .slice pw nw mw, cnt, tx⟩ (Nat.le_trans hwb hkf.b.size) hkf.b.size hco.out hnm.out
                      rw [← hR] at this ⊢
                      refine this.mono ?_
                      rintro r w' ⟨e1, e2, e3⟩
                      have hkk := hkf.trans e3
                      obtain ⟨l1, l2⟩ := hLK.out.kf hkk (Nat.le_refl _)
                      rw [hR] at e2 ⊢
                      exact ⟨by rw [← hR]; exact e1, e2.loose, (hB.out.trans (hLK.out.rd.r.mono hB.out.size)).trans hkk.b, l1, l2⟩⟩
                    have GC : Hid (∀ X, Kf w.heap.size wo.heap.size wc.heap.size wc X → X.heap[wo.heap.size]? = some (caO ⟨ck, nm, .slice pw nw mw, cnt, tx⟩)) := ⟨fun X hX => (hX.r _ (Nat.le_refl _) hLK.out.rd.l).trans hLK.out.rd.c⟩
                    have hC5 := hLK.out.rd.c
                    have q0 : wc.cell? ⟨wo.heap.size, 0, none⟩ = some (.int .i64 ck) := cell_at hC5 0
                    have q1 : wc.cell? ⟨wo.heap.size, 1, none⟩ = some (.string nm) := cell_at hC5 1
                    have q2 : wc.cell? ⟨wo.heap.size, 2, none⟩ = some (.slice pw nw mw) := cell_at hC5 2
                    have q3 : wc.cell? ⟨wo.heap.size, 3, none⟩ = some (.int .i64 cnt) := cell_at hC5 3
                    have q4 : wc.cell? ⟨wo.heap.size, 4, none⟩ = some (.string tx) := cell_at hC5 4
                    obtain ⟨e, s'⟩ := R
                    clear hC5 hwb hR hLK hRD
                    have F1 : True := trivial
                    simp only at cA cB hErr
                    go_upto_region 39 with (first
                      | (go_at_call 11; clear F1; refine cA.mono ?_; rintro _ wd ⟨rfl, hX, hkf⟩; have cB' := cB.out wd hX hkf; have hC6 := GC.out wd hkf; have r0 : wd.cell? ⟨wo.heap.size, 0, none⟩ = some (.int .i64 ck) := cell_at hC6 0; have r1 : wd.cell? ⟨wo.heap.size, 1, none⟩ = some (.string nm) := cell_at hC6 1; have r2 : wd.cell? ⟨wo.heap.size, 2, none⟩ = some (.slice pw nw mw) := cell_at hC6 2; have r3 : wd.cell? ⟨wo.heap.size, 3, none⟩ = some (.int .i64 cnt) := cell_at hC6 3; have r4 : wd.cell? ⟨wo.heap.size, 4, none⟩ = some (.string tx) := cell_at hC6 4; clear hX hkf hC6)
                      | (go_at_call 11; refine cB'.mono ?_; rintro _ we ⟨rfl, hPS⟩; replace hPS : Hid _ := ⟨hPS⟩))
                    clear cA cB cB' GC q0 q1 q2 q3 q4 r0 r1 r2 r3 r4
                    clear hK hB
                    by_cases he : e = 0
                    · subst he
                      go_upto_region 42 with fail
                      go_loopw [205] (fun q wy => ∃ k : Nat, k ≤ (lfZ s).length ∧ q = .int .i64 (k : Int) ∧ Hid (PS f w a b s' wo w9.heap.size p1 c1 p2 c2 (lfZ s) wy)) (fun q _ => (lfZ s).length - (RowKit.intOf q).toNat)
                      case atStart => exact ⟨0, Nat.zero_le _, by go_num, hPS⟩
                      case round =>
                        clear hPS
                        obtain ⟨k, hk, rfl, hPS⟩ := hrel
                        have hle2 := hle.out
                        by_cases hkl : k < (lfZ s).length
                        · obtain ⟨gl, rfl⟩ := hPS.out.l.ptr (by omega)
                          have x1 := hPS.out.cell k hkl
                          have hki : (k : Int) < (lfZ s).length := by omega
                          have hkb : (k : Int) < 65536 := by omega
                          go_wp2_with fail
                          go_roundw
                          case rel => exact ⟨k + 1, by omega, by go_num, hPS⟩
                          case measure => simp [RowKit.intOf]; omega
                        · obtain rfl : k = (lfZ s).length := by omega
                          have d4 : decide (((lfZ s).length : Int) < (lfZ s).length) = false := by simp
                          have hql' := hql.out
                          clear hkl hk
                          go_wp2_with fail
                          go_roundw
                          case rel => exact ⟨j + 1, s', by omega, by go_num, ⟨hPS.out.k, hPS.out.bw⟩⟩
                          case measure => simp [RowKit.intOf]; omega
                    · obtain rfl : s = s' := (hErr.out he).symm
                      have he1 : (e != 0) = true := by simp [he]
                      have he2 : (e == 0) = false := by simp [he]
                      clear hErr he
                      go_upto_region 42 with (first
                        | (go_at_call 7; refine hPS.out.k.doneA.mono ?_; rintro _ wz ⟨rfl, hb9⟩; replace hPS : Hid _ := ⟨hPS.out.below hb9⟩; clear hb9)
                        | (go_at_call 8; refine hPS.out.k.insA.mono ?_; rintro _ wz ⟨rfl, hb9⟩; replace hPS : Hid _ := ⟨hPS.out.below hb9⟩; clear hb9)
                        | (go_at_call 9; refine hPS.out.k.leftA.mono ?_; rintro _ wz ⟨p5, c5, rfl, hN5, hb9⟩; replace hN5 : Hid _ := ⟨hN5.nsl⟩; replace hPS : Hid _ := ⟨hPS.out.below hb9⟩; clear hb9)
                        | (go_at_call 10; refine (sameInts_any (lfZ s) (lfZ s) p5 p2 c5 c2 _ hN5.out hPS.out.r.nsl (Nat.le_trans hle.out (by decide))).mono ?_; rintro _ wz ⟨rfl, hb9⟩; replace hPS : Hid _ := ⟨hPS.out.below hb9⟩; clear hb9 hN5))
                      go_loopw [205] (fun q wy => ∃ k : Nat, k ≤ (lfZ s).length ∧ q = .int .i64 (k : Int) ∧ Hid (PS f w a b s wo w9.heap.size p1 c1 p2 c2 (lfZ s) wy)) (fun q _ => (lfZ s).length - (RowKit.intOf q).toNat)
                      case atStart => exact ⟨0, Nat.zero_le _, by go_num, hPS⟩
                      case round =>
                        clear hPS
                        obtain ⟨k, hk, rfl, hPS⟩ := hrel
                        have hle2 := hle.out
                        by_cases hkl : k < (lfZ s).length
                        · obtain ⟨gl, rfl⟩ := hPS.out.l.ptr (by omega)
                          have x1 := hPS.out.cell k hkl
                          have hki : (k : Int) < (lfZ s).length := by omega
                          have hkb : (k : Int) < 65536 := by omega
                          go_wp2_with fail
                          go_roundw
                          case rel => exact ⟨k + 1, by omega, by go_num, hPS⟩
                          case measure => simp [RowKit.intOf]; omega
                        · obtain rfl : k = (lfZ s).length := by omega
                          have d4 : decide (((lfZ s).length : Int) < (lfZ s).length) = false := by simp
                          have hql' := hql.out
                          clear hkl hk
                          go_wp2_with fail
                          go_roundw
                          case rel => exact ⟨j + 1, s, by omega, by go_num, ⟨hPS.out.k, hPS.out.bw⟩⟩
                          case measure => simp [RowKit.intOf]; omega
            · obtain rfl : j = cs.length := by omega
              have d3 : decide ((cs.length : Int) < cs.length) = false := by simp
              clear hj hlt
              have F1 : True := trivial
              have F2 : True := trivial
              have F3 : True := trivial
              go_wp2_with (first
  | (go_at_call 7; clear F1; refine hK.out.doneA.mono ?_; rintro _ w9 ⟨rfl, hb9⟩; replace hK : Hid (K2 f w.heap.size 0 0 w9 a s b s) := ⟨hK.out.below hb9⟩; replace hB : Hid (Below w.heap.size w w9) := ⟨hB.out.trans (hb9.mono hB.out.size)⟩; clear hb9)
  | (go_at_call 7; refine hK.out.doneB.mono ?_; rintro _ w9 ⟨rfl, hb9⟩; replace hK : Hid (K2 f w.heap.size 0 0 w9 a s b s) := ⟨hK.out.below hb9⟩; replace hB : Hid (Below w.heap.size w w9) := ⟨hB.out.trans (hb9.mono hB.out.size)⟩; clear hb9)
  | (go_at_call 8; clear F2; refine hK.out.insA.mono ?_; rintro _ w9 ⟨rfl, hb9⟩; replace hK : Hid (K2 f w.heap.size 0 0 w9 a s b s) := ⟨hK.out.below hb9⟩; replace hB : Hid (Below w.heap.size w w9) := ⟨hB.out.trans (hb9.mono hB.out.size)⟩; clear hb9)
  | (go_at_call 8; refine hK.out.insB.mono ?_; rintro _ w9 ⟨rfl, hb9⟩; replace hK : Hid (K2 f w.heap.size 0 0 w9 a s b s) := ⟨hK.out.below hb9⟩; replace hB : Hid (Below w.heap.size w w9) := ⟨hB.out.trans (hb9.mono hB.out.size)⟩; clear hb9)
  | (go_at_call 9; clear F3; refine hK.out.leftA.mono ?_; rintro _ w9 ⟨p1, c1, rfl, hN1, hb9⟩; have hs1 : Hid _ := ⟨hN1.nsl⟩; replace hK : Hid (K2 f w.heap.size 0 0 w9 a s b s) := ⟨hK.out.below hb9⟩; replace hB : Hid (Below w.heap.size w w9) := ⟨hB.out.trans (hb9.mono hB.out.size)⟩; clear hb9 hN1)
  | (go_at_call 9; refine hK.out.leftB.mono ?_; rintro _ w9 ⟨p2, c2, rfl, hN2, hb9⟩; have hs2 : Hid _ := ⟨hN2.nsl⟩; replace hs1 : Hid _ := ⟨hs1.out.below hb9⟩; replace hK : Hid (K2 f w.heap.size 0 0 w9 a s b s) := ⟨hK.out.below hb9⟩; replace hB : Hid (Below w.heap.size w w9) := ⟨hB.out.trans (hb9.mono hB.out.size)⟩; clear hb9 hN2)
  | (go_at_call 10; refine (sameInts_any (lfZ s) (lfZ s) p1 p2 c1 c2 _ hs1.out hs2.out (Nat.le_trans (lfZ_le hK.out.ok) (by decide))).mono ?_; rintro _ w9 ⟨rfl, hb9⟩; replace hK : Hid (K2 f w.heap.size 0 0 w9 a s b s) := ⟨hK.out.below hb9⟩; replace hB : Hid (Below w.heap.size w w9) := ⟨hB.out.trans (hb9.mono hB.out.size)⟩; clear hb9))
              go_ret
              exact ⟨rfl, hB.out⟩
end Go.Proofs.YtepnmfgbflogkaaDoor
namespace Go.Proofs.YtepnmfgbflogkaaDoor.J
open Go.ChangeShapes Go.WideShapes Go.ChangeAt Go.RowKit

theorem beq_ba {a b : ByteArray} (h : a ≠ b) : (a.toList == b.toList) = false :=
  beq_eq_false_iff_ne.2 fun e => h (by
    rw [ByteArray.toList_eq, ByteArray.toList_eq] at e
    exact ByteArray.ext (Array.toList_inj.1 e))
end Go.Proofs.YtepnmfgbflogkaaDoor.J

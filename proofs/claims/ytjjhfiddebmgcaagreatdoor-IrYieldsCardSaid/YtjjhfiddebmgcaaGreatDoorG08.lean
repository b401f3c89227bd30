/- IYs, IMp, ILx2, ICk. -/
import Derived.Test.YtjjhfiddebmgcaaGreatDoorG07
import Derived.Test.YtjjhfiddebmgcaaGreatDoorG05
import Derived.Maps.Own
import Derived.Maps.OwnSet
import Derived.Maps.OwnOps
import Derived.Test.YtjjhfiddebmgcaaGreatDoorG01
namespace Go.Proofs.YtjjhfiddebmgcaaGreatDoor
open Go.ChangeShapes Go.WideShapes Go.ChangeAt Go.RowKit
open J

set_option maxHeartbeats 2000000 in
theorem sameWords_eq (l : List Int) (pa pb : Option Addr) (ca cb : Nat) (w : World) (ha : URow w pa w.heap.size l) (hb : URow w pb w.heap.size l) (hl : l.length * 8 ≤ 140737488355328) :
    Calls Tryz.prog 40 #[.slice pa l.length ca, .slice pb l.length cb] w fun r w' => r = .returned (.bool true) ∧ Below w.heap.size w w' := by
  go_enter Tryz.func40, Tryz.ntmps40
  go_wp2_with fail
  go_loopw [5] (fun n wr => ∃ (j : Nat), j ≤ l.length ∧ n = .int .i64 j ∧ Hid (Below w.heap.size w wr)) (fun n _ => l.length - (RowKit.intOf n).toNat)
  case atStart => exact ⟨0, Nat.zero_le _, by go_num, ⟨Below.refl _ _⟩⟩
  case round =>
    obtain ⟨j, hj, rfl, hd⟩ := hrel
    by_cases hlt : j < l.length
    · obtain ⟨x, hx⟩ : ∃ x, l[j]? = some x := ⟨l[j], List.getElem?_eq_getElem hlt⟩
      obtain ⟨g, o, rfl, _, r0⟩ := (ha.below hd.out).c j x hx
      obtain ⟨g2, o2, rfl, _, r1⟩ := (hb.below hd.out).c j x hx
      have hlti : (j : Int) < l.length := by omega
      have z : (x != x) = false := by simp
      clear ha hb hx
      go_wp2_with fail
      go_quiet (fail)
      go_wp2_with fail
      go_roundw
      case rel => exact ⟨j + 1, by omega, by go_num, ⟨bdN hd.out _⟩⟩
      case measure => simp [RowKit.intOf]; omega
    · obtain rfl : j = l.length := by omega
      go_wp2_with fail
      go_ret
      exact ⟨rfl, hd.out⟩
set_option maxRecDepth 20000 in
set_option maxHeartbeats 4000000 in
theorem sameToken_eq (t : Tk) (p1 p2 : Option Addr) (c1 c2 : Nat) (w : World) (h1 : URow w p1 w.heap.size t.cst) (h2 : URow w p2 w.heap.size t.cst) (hs : t.cst.length * 8 ≤ 140737488355328) :
    Calls Tryz.prog 24 #[tkV t p1 c1, tkV t p2 c2] w fun r w' => r = .returned (.bool true) ∧ Below w.heap.size w w' := by
  have HB : Below w.heap.size w ((w.alloc (tkO t p1 c1)).alloc (tkO t p2 c2)) := two_b w _ _
  have hA := tk_of (two_1 w (tkO t p1 c1) (tkO t p2 c2))
  have hC := tk_of (two_2 w (tkO t p1 c1) (tkO t p2 c2))
  have cW := sameWords_eq t.cst p1 p2 c1 c2 _ ((h1.below HB).mono HB.size) ((h2.below HB).mono HB.size) hs
  generalize hW : (w.alloc (tkO t p1 c1)).alloc (tkO t p2 c2) = W at HB hA hC cW
  simp only [tkO, tkC] at hW
  replace hA := hA
  have a0 : W.cell? ⟨w.heap.size, 0, none⟩ = some (.int .i64 t.op) := hA.c0
  have a1 : W.cell? ⟨w.heap.size, 1, none⟩ = some (.string t.name) := hA.c1
  have a2 : W.cell? ⟨w.heap.size, 2, none⟩ = some (.int .i64 t.id) := hA.c2
  have a3 : W.cell? ⟨w.heap.size, 3, none⟩ = some (.int .i64 t.off) := hA.c3
  have a4 : W.cell? ⟨w.heap.size, 4, none⟩ = some (.int .i64 t.siz) := hA.c4
  have a5 : W.cell? ⟨w.heap.size, 5, none⟩ = some (.int .i64 t.since) := hA.c5
  have a6 : W.cell? ⟨w.heap.size, 6, none⟩ = some (.int .i64 t.prim) := hA.c6
  have a7 : W.cell? ⟨w.heap.size, 7, none⟩ = some (.int .i64 t.len) := hA.c7
  have a8 : W.cell? ⟨w.heap.size, 8, none⟩ = some (.int .i64 t.pres) := hA.c8
  have a9 : W.cell? ⟨w.heap.size, 9, none⟩ = some (.int .u64 t.nul) := hA.c9
  have a10 : W.cell? ⟨w.heap.size, 10, none⟩ = some (.int .u64 t.lo) := hA.c10
  have a11 : W.cell? ⟨w.heap.size, 11, none⟩ = some (.int .u64 t.hi) := hA.c11
  have a12 : W.cell? ⟨w.heap.size, 12, none⟩ = some (.slice p1 t.cst.length c1) := hA.c12
  have a13 : W.cell? ⟨w.heap.size, 13, none⟩ = some (.int .u64 t.val) := hA.c13
  have a14 : W.cell? ⟨w.heap.size, 14, none⟩ = some (.int .i64 t.blk) := hA.c14
  have a15 : W.cell? ⟨w.heap.size, 15, none⟩ = some (.int .i64 t.full) := hA.c15
  have a16 : W.cell? ⟨w.heap.size, 16, none⟩ = some (.int .i64 t.a.p) := hA.c16
  have a17 : W.cell? ⟨w.heap.size, 17, none⟩ = some (.int .i64 t.a.o) := hA.c17
  have a18 : W.cell? ⟨w.heap.size, 18, none⟩ = some (.int .i64 t.b.p) := hA.c18
  have a19 : W.cell? ⟨w.heap.size, 19, none⟩ = some (.int .i64 t.b.o) := hA.c19
  have a20 : W.cell? ⟨w.heap.size, 20, none⟩ = some (.int .i64 t.pair) := hA.c20
  have b0 : W.cell? ⟨w.heap.size + 1, 0, none⟩ = some (.int .i64 t.op) := hC.c0
  have b1 : W.cell? ⟨w.heap.size + 1, 1, none⟩ = some (.string t.name) := hC.c1
  have b2 : W.cell? ⟨w.heap.size + 1, 2, none⟩ = some (.int .i64 t.id) := hC.c2
  have b3 : W.cell? ⟨w.heap.size + 1, 3, none⟩ = some (.int .i64 t.off) := hC.c3
  have b4 : W.cell? ⟨w.heap.size + 1, 4, none⟩ = some (.int .i64 t.siz) := hC.c4
  have b5 : W.cell? ⟨w.heap.size + 1, 5, none⟩ = some (.int .i64 t.since) := hC.c5
  have b6 : W.cell? ⟨w.heap.size + 1, 6, none⟩ = some (.int .i64 t.prim) := hC.c6
  have b7 : W.cell? ⟨w.heap.size + 1, 7, none⟩ = some (.int .i64 t.len) := hC.c7
  have b8 : W.cell? ⟨w.heap.size + 1, 8, none⟩ = some (.int .i64 t.pres) := hC.c8
  have b9 : W.cell? ⟨w.heap.size + 1, 9, none⟩ = some (.int .u64 t.nul) := hC.c9
  have b10 : W.cell? ⟨w.heap.size + 1, 10, none⟩ = some (.int .u64 t.lo) := hC.c10
  have b11 : W.cell? ⟨w.heap.size + 1, 11, none⟩ = some (.int .u64 t.hi) := hC.c11
  have b12 : W.cell? ⟨w.heap.size + 1, 12, none⟩ = some (.slice p2 t.cst.length c2) := hC.c12
  have b13 : W.cell? ⟨w.heap.size + 1, 13, none⟩ = some (.int .u64 t.val) := hC.c13
  have b14 : W.cell? ⟨w.heap.size + 1, 14, none⟩ = some (.int .i64 t.blk) := hC.c14
  have b15 : W.cell? ⟨w.heap.size + 1, 15, none⟩ = some (.int .i64 t.full) := hC.c15
  have b16 : W.cell? ⟨w.heap.size + 1, 16, none⟩ = some (.int .i64 t.a.p) := hC.c16
  have b17 : W.cell? ⟨w.heap.size + 1, 17, none⟩ = some (.int .i64 t.a.o) := hC.c17
  have b18 : W.cell? ⟨w.heap.size + 1, 18, none⟩ = some (.int .i64 t.b.p) := hC.c18
  have b19 : W.cell? ⟨w.heap.size + 1, 19, none⟩ = some (.int .i64 t.b.o) := hC.c19
  have b20 : W.cell? ⟨w.heap.size + 1, 20, none⟩ = some (.int .i64 t.pair) := hC.c20
  clear hA hC h1 h2
  replace HB : Hid _ := ⟨HB⟩
  obtain ⟨op, nm, id, off, siz, since, prim, len, pres, nul, lo, hi, cst, val, blk, full, ⟨ap, ao⟩, ⟨bp, bo⟩, pair⟩ := t
  simp only at *
  go_enter Tryz.func24, Tryz.ntmps24
  go_wp2_with (go_at_call 40; refine cW.mono ?_; rintro _ w1 ⟨rfl, hb1⟩; replace hb1 : Hid _ := ⟨hb1⟩)
  all_goals
    go_ret
    exact ⟨rfl, HB.out.trans (hb1.out.mono HB.out.size)⟩
end Go.Proofs.YtjjhfiddebmgcaaGreatDoor
namespace Go.Proofs.YtjjhfiddebmgcaaGreatDoor
open Go.ChangeShapes Go.WideShapes Go.ChangeAt Go.RowKit Go.Shelf Go.Maps

theorem laidOut : laidOutB Tryz.prog = true := by kernel_rfl
theorem lawI : Keyed Tryz.prog 3 := int_keyed Tryz.underlying3
theorem lawN : Keyed Tryz.prog 124 := Keyed.of_law (deep_law_laid laidOut (m := 3) (by omega) (of_decide_eq_true (by kernel_rfl)) (by kernel_rfl) (by kernel_rfl))
theorem lawV : Keyed Tryz.prog 110 := Keyed.of_law (deep_law_laid laidOut (m := 3) (by omega) (of_decide_eq_true (by kernel_rfl)) (by kernel_rfl) (by kernel_rfl))
theorem zeroI (w : World) : (zeroValue 3).run Tryz.prog w = .ok (.int .i64 0) w := by kernel_rfl
/-- Block m is a map of at most n entries that holds just the keys hs. -/
def MHas (W : World) (k : TypeId) (m n : Nat) (hs : Value → Prop) : Prop := ∃ D : DataW Unit, W.ownsMap Tryz.prog k (plainElem Tryz.prog 3) m n D ∧ ∀ v kl, keyOf Tryz.prog k v = some kl → (Maps.has D kl = true ↔ hs v)
theorem MHas.same {W W' : World} {k : TypeId} {m n : Nat} {hs : Value → Prop} (h : MHas W k m n hs) (hb : W'.heap[m]? = W.heap[m]?) : MHas W' k m n hs := by
  obtain ⟨D, ⟨es, ck, e, r⟩, h2⟩ := h
  exact ⟨D, ⟨es, ck, hb.trans e, r⟩, h2⟩
theorem MHas.lt {W : World} {k : TypeId} {m n : Nat} {hs : Value → Prop} (h : MHas W k m n hs) : m < W.heap.size := by
  obtain ⟨D, h1, h2⟩ := h
  exact h1.lt
theorem has_nil (kl : Lit) : Maps.has (DataW.map [] : DataW Unit) kl = false := rfl
theorem MHas.made (w : World) (k : TypeId) : MHas (w.alloc (.map #[] 0)) k w.heap.size 0 (fun _ => False) :=
  ⟨_, World.ownsMap_made w _ _ _, fun v kl _ => by rw [has_nil]; simp⟩
theorem MHas.put {W W' : World} {k : TypeId} {m n : Nat} {hs : Value → Prop} (K : Keyed Tryz.prog k) {D : DataW Unit} (hD : W.ownsMap Tryz.prog k (plainElem Tryz.prog 3) m n D) (h : ∀ v kl, keyOf Tryz.prog k v = some kl → (Maps.has D kl = true ↔ hs v)) {v0 : Value} {k0 : Lit} (hk : keyOf Tryz.prog k v0 = some k0) {d : DataW Unit} (h' : W'.ownsMap Tryz.prog k (plainElem Tryz.prog 3) m (n + 1) (D.put k0 d)) :
    MHas W' k m (n + 1) (fun v => v = v0 ∨ hs v) := by
  refine ⟨_, h', fun v kl hv => ?_⟩
  by_cases e : kl = k0
  · subst e
    rw [has_put_same hD.isMap (K.key hk)]
    have := K.inj hv hk
    simp [this]
  · rw [has_put_other e, h v kl hv]
    constructor
    · exact .inr
    · rintro (rfl | h)
      · rw [hk] at hv; cases hv; exact absurd rfl e
      · exact h
/-- Every block but m stands. -/
theorem isNewI_any (m n : Nat) (x i : Int) (hs : Value → Prop) (b : Bool) (w : World) (hM : MHas w 3 m n hs) (hn : n < 17592186044416) (hx : i64ok x) (hi : i64ok i) (hb : b = true ↔ ¬ hs (.int .i64 x)) :
    Calls Tryz.prog 102 #[.map (some m), .int .i64 x, .int .i64 i] w fun r w' => r = .returned (.bool b) ∧ MHas w' 3 m (n + 1) (fun v => v = .int .i64 x ∨ hs v) ∧ w.grownBy w' (some m) := by
  obtain ⟨D, hD, hh⟩ := hM
  have hkey : keyOf Tryz.prog 3 (.int .i64 x) = some (.int .i64 x) := keyOf_int_mk Tryz.underlying3 (WalkArith.wf_i64 hx)
  have e : Maps.has D (.int .i64 x) = !b := by
    have := hh _ _ hkey
    cases b <;> simp_all
  go_enter Tryz.func102, Tryz.ntmps102
  go_wp2_with (first | (at_lookup; refine wpList_lookup_own_ok_int _ rfl _ _ 90 rfl 3 3 .i64 lawI Tryz.underlying90 Tryz.underlying3 (zeroI _) m n D rfl hD _ _ rfl hkey ?_; intro c hat hwc) | (at_mapUpdate; refine wpList_mapUpdate_own _ rfl _ _ _ 90 rfl 3 3 lawI Tryz.underlying90 _ m n D rfl hD (by unfold maxLen; omega) _ _ _ rfl rfl hkey _ [] (plainElem_int Tryz.underlying3 (WalkArith.wf_i64 hi)) ?_; intro w1 hown1 hturn1))
  go_ret
  exact ⟨rfl, MHas.put lawI hD hh hkey hown1, hturn1⟩
theorem tySize : ∃ m, Tryz.prog.types.size = m + 1 := ⟨Tryz.prog.types.size - 1, by kernel_rfl⟩
theorem ktN : Tryz.prog.keyType 124 = true := by kernel_rfl
theorem ktV : Tryz.prog.keyType 110 = true := by kernel_rfl
theorem clN : Tryz.prog.cellsOf 124 = 2 := by kernel_rfl
theorem clV : Tryz.prog.cellsOf 110 = 2 := by kernel_rfl
theorem clI : Tryz.prog.cellsOf 3 = 1 := by kernel_rfl
theorem clS : Tryz.prog.cellsOf 9 = 1 := by kernel_rfl
theorem clU : Tryz.prog.cellsOf 40 = 1 := by kernel_rfl
theorem keyN (a : Int) (s : ByteArray) (ha : i64ok a) (hs : s.size ≤ maxLen) : ∃ kl, keyOf Tryz.prog 124 (.agg #[.int .i64 a, .string s]) = some kl := by
  obtain ⟨m, hm⟩ := tySize
  have wa : (Lit.int .i64 a).wf = true := WalkArith.wf_i64 ha
  have hf : (Value.agg #[.int .i64 a, .string s]).formed Tryz.prog 124 = true := by simp [Value.formed, Tryz.underlying124, clN]
  unfold keyOf
  rw [Tryz.underlying124]
  simp only [ktN, hf, Bool.and_self, if_true, Value.cells]
  rw [hm]
  simp [Program.keyLits, Tryz.underlying124, Tryz.underlying3, Tryz.underlying9, clN, clI, clS, wa, hs]
theorem keyV (a b : Int) (ha : i64ok a) (hb : u64ok b) : ∃ kl, keyOf Tryz.prog 110 (.agg #[.int .i64 a, .int .u64 b]) = some kl := by
  obtain ⟨m, hm⟩ := tySize
  have wa : (Lit.int .i64 a).wf = true := WalkArith.wf_i64 ha
  have wb : (Lit.int .u64 b).wf = true := WalkArith.wf_u64 hb
  have hf : (Value.agg #[.int .i64 a, .int .u64 b]).formed Tryz.prog 110 = true := by simp [Value.formed, Tryz.underlying110, clV]
  unfold keyOf
  rw [Tryz.underlying110]
  simp only [ktV, hf, Bool.and_self, if_true, Value.cells]
  rw [hm]
  simp [Program.keyLits, Tryz.underlying110, Tryz.underlying3, Tryz.underlying40, clV, clI, clU, wa, wb]
theorem isNewN_any (m n : Nat) (a i : Int) (s : ByteArray) (hs : Value → Prop) (b : Bool) (w : World) (hM : MHas w 124 m n hs) (hn : n < 17592186044416) (ha : i64ok a) (hl : s.size ≤ maxLen) (hi : i64ok i) (hb : b = true ↔ ¬ hs (.agg #[.int .i64 a, .string s])) :
    Calls Tryz.prog 103 #[.map (some m), .agg #[.int .i64 a, .string s], .int .i64 i] w fun r w' => r = .returned (.bool b) ∧ MHas w' 124 m (n + 1) (fun v => v = .agg #[.int .i64 a, .string s] ∨ hs v) ∧ w.grownBy w' (some m) := by
  obtain ⟨D, hD, hh⟩ := hM
  obtain ⟨kl, hkey⟩ := keyN a s ha hl
  have e : Maps.has D kl = !b := by
    have := hh _ _ hkey
    cases b <;> simp_all
  go_enter Tryz.func103, Tryz.ntmps103
  go_wp2_with (first | (at_lookup; refine wpList_lookup_own_ok_int _ rfl _ _ 91 rfl 124 3 .i64 lawN Tryz.underlying91 Tryz.underlying3 (zeroI _) m n D rfl (hD.alloc _) _ _ rfl hkey ?_; intro c hat hwc) | (at_mapUpdate; refine wpList_mapUpdate_own _ rfl _ _ _ 91 rfl 124 3 lawN Tryz.underlying91 _ m n D rfl (hD.alloc _) (by unfold maxLen; omega) _ _ _ rfl rfl hkey _ [] (plainElem_int Tryz.underlying3 (WalkArith.wf_i64 hi)) ?_; intro w1 hown1 hturn1))
  go_ret
  exact ⟨rfl, MHas.put lawN hD hh hkey hown1, (World.grownBy_alloc w _ _).trans hturn1⟩
theorem isNewV_any (m n : Nat) (a i x : Int) (hs : Value → Prop) (b : Bool) (w : World) (hM : MHas w 110 m n hs) (hn : n < 17592186044416) (ha : i64ok a) (hx : u64ok x) (hi : i64ok i) (hb : b = true ↔ ¬ hs (.agg #[.int .i64 a, .int .u64 x])) :
    Calls Tryz.prog 92 #[.map (some m), .agg #[.int .i64 a, .int .u64 x], .int .i64 i] w fun r w' => r = .returned (.bool b) ∧ MHas w' 110 m (n + 1) (fun v => v = .agg #[.int .i64 a, .int .u64 x] ∨ hs v) ∧ w.grownBy w' (some m) := by
  obtain ⟨D, hD, hh⟩ := hM
  obtain ⟨kl, hkey⟩ := keyV a x ha hx
  have e : Maps.has D kl = !b := by
    have := hh _ _ hkey
    cases b <;> simp_all
  go_enter Tryz.func92, Tryz.ntmps92
  go_wp2_with (first | (at_lookup; refine wpList_lookup_own_ok_int _ rfl _ _ 92 rfl 110 3 .i64 lawV Tryz.underlying92 Tryz.underlying3 (zeroI _) m n D rfl (hD.alloc _) _ _ rfl hkey ?_; intro c hat hwc) | (at_mapUpdate; refine wpList_mapUpdate_own _ rfl _ _ _ 92 rfl 110 3 lawV Tryz.underlying92 _ m n D rfl (hD.alloc _) (by unfold maxLen; omega) _ _ _ rfl rfl hkey _ [] (plainElem_int Tryz.underlying3 (WalkArith.wf_i64 hi)) ?_; intro w1 hown1 hturn1))
  go_ret
  exact ⟨rfl, MHas.put lawV hD hh hkey hown1, (World.grownBy_alloc w _ _).trans hturn1⟩
end Go.Proofs.YtjjhfiddebmgcaaGreatDoor
namespace Go.Proofs.YtjjhfiddebmgcaaGreatDoor
open Go.ChangeShapes Go.WideShapes Go.ChangeAt Go.RowKit

theorem pick_map (l : List Oper) : ∀ sc : List Nat, sc.all (fun i => decide (i < l.length)) = true → sc.map (fun i => l.toArray[i]?) = (sc.filterMap fun i => l[i]?).map some
  | [], _ => rfl
  | i :: r, h => by
    rw [List.all_cons, Bool.and_eq_true, decide_eq_true_eq] at h
    rw [List.map_cons, List.filterMap_cons, List.getElem?_eq_getElem h.1, pick_map l r h.2]
    simp [h.1]
theorem wp_region_pp {P : Program} {Q : Exit → Act → World → Prop} {id : Nat} {a : Act} {w : World} {l : List Oper} (p : World → Prop) (sc : List Nat) (hm : P.follows .mixedOrders = true) (hv : (Region.noSelect l.toArray && schB .any l.toArray sc (Array.replicate l.length false) && (sc.length == l.length) && sc.all (fun i => decide (i < l.length))) = true)
    (hQ : ∀ c (a : Act) d v w, Q (.panic c) (a.put d v) w → Q (.panic c) a w) (hp : p w.drew) (h : Lx P l.toArray (fun W => ∃ θ : CW p, W = θ.w) Q (sc.filterMap fun i => l[i]?) a w.drew) : (Code.region id l.toArray true).wp P Q a w := by
  rw [Bool.and_eq_true] at hv
  exact wp_region_px p sc _ (pick_map l sc hv.2) hm hv.1 hQ hp h
end Go.Proofs.YtjjhfiddebmgcaaGreatDoor
namespace Go.Proofs.YtjjhfiddebmgcaaGreatDoor
open Go.ChangeShapes Go.WideShapes Go.ChangeAt Go.RowKit Go.Shelf Go.Maps

/-- Every block of w but those of E stands. -/
structure Kb (E : List Nat) (w W : World) : Prop where
  os : W.os = w.os
  tape : W.tape = w.tape
  output : W.output = w.output
  size : w.heap.size ≤ W.heap.size
  block : ∀ k, k < w.heap.size → k ∉ E → W.heap[k]? = w.heap[k]?
theorem Kb.refl (E : List Nat) (w : World) : Kb E w w := ⟨rfl, rfl, rfl, Nat.le_refl _, fun _ _ _ => rfl⟩
theorem Kb.trans {E : List Nat} {a b c : World} (h : Kb E a b) (h' : Kb E b c) : Kb E a c :=
  ⟨h'.os.trans h.os, h'.tape.trans h.tape, h'.output.trans h.output, Nat.le_trans h.size h'.size, fun k hk he => (h'.block k (Nat.lt_of_lt_of_le hk h.size) he).trans (h.block k hk he)⟩
theorem Kb.mono {E E' : List Nat} {a b : World} (h : Kb E a b) (hE : ∀ x ∈ E, x ∈ E') : Kb E' a b := ⟨h.os, h.tape, h.output, h.size, fun k hk he => h.block k hk fun hx => he (hE k hx)⟩
theorem Kb.of_below {E : List Nat} {a b : World} (h : Below a.heap.size a b) : Kb E a b := ⟨h.os, h.tape, h.output, h.size, fun k hk _ => h.block k hk⟩
theorem Kb.of_grown {E : List Nat} {a b : World} {m : Nat} (h : a.grownBy b (some m)) (hm : m ∈ E) : Kb E a b := ⟨h.os, h.tape, h.output, h.size, fun k hk he => h.block k hk fun e => he (by cases e; exact hm)⟩
theorem Kb.drew {E : List Nat} {a b : World} (h : Kb E a b) : Kb E a b.drew := ⟨h.os, h.tape, h.output, h.size, h.block⟩
theorem Kb.alloc {E : List Nat} {a b : World} (h : Kb E a b) (o : Obj) : Kb E a (b.alloc o) := h.trans (Kb.of_below (bel1 _ _))
theorem Kb.set {E : List Nat} {a b : World} (h : Kb E a b) {g o : Nat} (hg : g ∈ E) (v : Value) : Kb E a (b.setCell ⟨g, o, none⟩ v) := by
  refine ⟨h.os, h.tape, h.output, ?_, fun k hk he => ?_⟩
  · show a.heap.size ≤ (b.heap.modify g _).size
    rw [Array.size_modify]; exact h.size
  · show (b.heap.modify g _)[k]? = _
    rw [Array.getElem?_modify, if_neg (fun e => he (by subst e; exact hg))]
    exact h.block k hk he
theorem Kb.below {E : List Nat} {a b : World} {B : Nat} (h : Kb E a b) (hB : B ≤ a.heap.size) (hE : ∀ x ∈ E, B ≤ x) : Below B a b := ⟨h.os, h.tape, h.output, h.size, fun k hk => h.block k (by omega) fun hx => by have := hE k hx; omega⟩
theorem Kb.cell {E : List Nat} {a b : World} (h : Kb E a b) {g o : Nat} (hg : g < a.heap.size) (hE : g ∉ E) : b.cell? ⟨g, o, none⟩ = a.cell? ⟨g, o, none⟩ := cell_blk (h.block g hg hE)
theorem Kb0 {w W : World} (h : Kb [] w W) : Below w.heap.size w W := ⟨h.os, h.tape, h.output, h.size, fun k hk => h.block k hk List.not_mem_nil⟩
theorem tdr1 {B : Nat} {a w : World} (h : Below B a w) : Below B a w.drew := ⟨h.os, h.tape, h.output, h.size, h.block⟩
/-- What is open, as the program has it. -/
structure Sv where
  at_ : Nat
  cnt : Int
  last : Int
  fld : Int
  row : Int
  en : Int
  cod : Int
def svC (g o : Nat) (s : Sv) : List Value := [.pointer (some ⟨g, o + s.at_ * 21, none⟩), .int .i64 (s.at_ : Int), .int .i64 s.cnt, .int .i64 s.last, .int .i64 s.fld, .int .i64 s.row, .int .i64 s.en, .int .i64 s.cod]
def svCs (g o : Nat) (l : List Sv) : List Value := l.flatMap (svC g o)
theorem svCs_length (g o : Nat) (l : List Sv) : (svCs g o l).length = l.length * 8 := by
  induction l with
  | nil => rfl
  | cons a r ih =>
    unfold svCs at ih ⊢
    rw [List.flatMap_cons, List.length_append, ih, List.length_cons]
    show 8 + _ = _
    omega
theorem svCs_append (g o : Nat) (a b : List Sv) : svCs g o (a ++ b) = svCs g o a ++ svCs g o b := by unfold svCs; rw [List.flatMap_append]
/-- The cells of the last that is open. -/
structure ScC (w : World) (g o go k : Nat) (x : Sv) : Prop where
  c0 : w.cell? ⟨go, k, none⟩ = some (.pointer (some ⟨g, o + x.at_ * 21, none⟩))
  c1 : w.cell? ⟨go, k + 1, none⟩ = some (.int .i64 (x.at_ : Int))
  c2 : w.cell? ⟨go, k + 2, none⟩ = some (.int .i64 x.cnt)
  c3 : w.cell? ⟨go, k + 3, none⟩ = some (.int .i64 x.last)
  c4 : w.cell? ⟨go, k + 4, none⟩ = some (.int .i64 x.fld)
  c5 : w.cell? ⟨go, k + 5, none⟩ = some (.int .i64 x.row)
  c6 : w.cell? ⟨go, k + 6, none⟩ = some (.int .i64 x.en)
  c7 : w.cell? ⟨go, k + 7, none⟩ = some (.int .i64 x.cod)
/-- The row of what is open, in block go. -/
structure OpR (w : World) (g o go cap : Nat) (l : List Sv) : Prop where
  ex : ∃ cur : Array Value, w.heap[go]? = some (.cells cur 101 (0, 0)) ∧ l.length ≤ cap ∧ cap ≤ maxLen ∧ cur.size = cap * 8 ∧ cur.toList.take (l.length * 8) = svCs g o l
theorem OpR.same {w w' : World} {g o go cap : Nat} {l : List Sv} (h : OpR w g o go cap l) (hb : w'.heap[go]? = w.heap[go]?) : OpR w' g o go cap l := by
  obtain ⟨cur, h1, r⟩ := h.ex
  exact ⟨cur, hb.trans h1, r⟩
theorem OpR.lt {w : World} {g o go cap : Nat} {l : List Sv} (h : OpR w g o go cap l) : go < w.heap.size := by
  obtain ⟨cur, h1, _⟩ := h.ex
  exact (Array.getElem?_eq_some_iff.1 h1).1
theorem OpR.owns {w : World} {g o go cap : Nat} {l : List Sv} (h : OpR w g o go cap l) {base : Nat} (hb : base ≤ go) : w.ownsRow base 101 8 (.slice (some ⟨go, 0, none⟩) l.length cap) l.length (svCs g o l) := by
  obtain ⟨cur, h1, h2, h3, h4, h5⟩ := h.ex
  exact ⟨svCs_length g o l, .inr ⟨go, cap, cur, rfl, hb, h1, h2, h3, h4, h5⟩⟩
theorem OpR.cell {w : World} {g o go cap : Nat} {l : List Sv} (h : OpR w g o go cap l) {j : Nat} {u : Value} (hu : (svCs g o l)[j]? = some u) : w.cell? ⟨go, j, none⟩ = some u := by
  obtain ⟨cur, h1, h2, h3, h4, h5⟩ := h.ex
  rw [← h5, List.getElem?_take] at hu
  split at hu
  · simp only [World.cell?, h1]
    simpa using hu
  · cases hu
theorem svCs_last (g o : Nat) (L : List Sv) (x : Sv) (j : Nat) (hj : j < 8) : (svCs g o (L ++ [x]))[L.length * 8 + j]? = (svC g o x)[j]? := by
  rw [svCs_append, List.getElem?_append_right (by rw [svCs_length]; omega), svCs_length]
  rw [show L.length * 8 + j - L.length * 8 = j by omega]
  unfold svCs
  rw [List.flatMap_cons, List.flatMap_nil, List.append_nil]
theorem OpR.last {w : World} {g o go cap : Nat} {L : List Sv} {x : Sv} (h : OpR w g o go cap (L ++ [x])) : ScC w g o go (L.length * 8) x :=
  have c := fun j u (hj : j < 8) (hu : (svC g o x)[j]? = some u) => h.cell ((svCs_last g o L x j hj).trans hu)
  ⟨c 0 _ (by decide) rfl, c 1 _ (by decide) rfl, c 2 _ (by decide) rfl, c 3 _ (by decide) rfl, c 4 _ (by decide) rfl, c 5 _ (by decide) rfl, c 6 _ (by decide) rfl, c 7 _ (by decide) rfl⟩
/-- One cell of the last written. -/
theorem OpR.set {w : World} {g o go cap : Nat} {L : List Sv} {x x' : Sv} {j : Nat} {v : Value} (h : OpR w g o go cap (L ++ [x])) (hj : j < 8) (hx : svC g o x' = (svC g o x).set j v) : OpR (w.setCell ⟨go, L.length * 8 + j, none⟩ v) g o go cap (L ++ [x']) := by
  obtain ⟨cur, h1, h2, h3, h4, h5⟩ := h.ex
  have hl : (L ++ [x]).length = (L ++ [x']).length := by simp
  have hx8 : (svC g o x).length = 8 := rfl
  refine ⟨cur.setIfInBounds (L.length * 8 + j) v, ?_, by rw [← hl]; exact h2, h3, by rw [Array.size_setIfInBounds]; exact h4, ?_⟩
  · show (w.heap.modify go _)[go]? = _
    rw [Array.getElem?_modify, if_pos rfl, h1]
    rfl
  · rw [Array.toList_setIfInBounds, List.take_set, ← hl, h5, svCs_append, svCs_append, List.set_append_right _ _ (by rw [svCs_length]; omega), svCs_length]
    rw [show L.length * 8 + j - L.length * 8 = j by omega]
    congr 1
    unfold svCs
    rw [List.flatMap_cons, List.flatMap_nil, List.append_nil, List.flatMap_cons, List.flatMap_nil, List.append_nil, hx]
theorem tdr {B n : Nat} {a w : World} (h : Below B a w) : Below B a (w.drewN n) := ⟨h.os, h.tape, h.output, h.size, h.block⟩
theorem top_any (B go n cap : Nat) (w : World) (hc : w.cell? ⟨B, 0, none⟩ = some (.slice (some ⟨go, 0, none⟩) (n + 1) cap)) (hn : n < 1000000000000) :
    Calls Tryz.prog 76 #[.pointer (some ⟨B, 0, none⟩)] w fun r w' => r = .returned (.pointer (some ⟨go, n * 8, none⟩)) ∧ Below w.heap.size w w' := by
  have e1 : ((n + 1 : Nat) : Int) - 1 = (n : Int) := by omega
  have e2 : (n : Int) < ((n + 1 : Nat) : Int) := by omega
  go_enter Tryz.func76, Tryz.ntmps76
  go_wp2_with fail
  go_quiet (fail)
  go_wp2_with fail
  go_ret
  exact ⟨rfl, tdr (Below.refl _ _)⟩
theorem isEmpty_any (B n cap : Nat) (p : Option Addr) (w : World) (hc : w.cell? ⟨B, 0, none⟩ = some (.slice p n cap)) :
    Calls Tryz.prog 75 #[.pointer (some ⟨B, 0, none⟩)] w fun r w' => r = .returned (.bool (decide (n = 0))) ∧ w' = w := by
  go_enter Tryz.func75, Tryz.ntmps75
  go_wp2_with fail
  go_ret
  exact ⟨rb (by rw [Bool.eq_iff_iff]; simp), rfl⟩
/-- The checker's cells. -/
structure CkC (w : World) (B gf : Nat) (op : Value) (i : Int) (rl : Value) (m1 m2 m3 : Nat) (dep : Nat → Int) (wh : Bool) : Prop where
  lt : B < w.heap.size
  c0 : w.cell? ⟨B, 0, none⟩ = some op
  c1 : w.cell? ⟨B, 1, none⟩ = some (.pointer (some ⟨gf, 0, none⟩))
  c2 : w.cell? ⟨B, 2, none⟩ = some (.int .i64 i)
  c3 : w.cell? ⟨B, 3, none⟩ = some rl
  cd : ∀ q, q < 16 → w.cell? ⟨B, 4 + q, none⟩ = some (.int .i64 (dep q))
  c20 : w.cell? ⟨B, 20, none⟩ = some (.map (some m1))
  c21 : w.cell? ⟨B, 21, none⟩ = some (.map (some m2))
  c22 : w.cell? ⟨B, 22, none⟩ = some (.map (some m3))
  c23 : w.cell? ⟨B, 23, none⟩ = some (.bool wh)
theorem CkC.same {w w' : World} {B gf : Nat} {op : Value} {i : Int} {rl : Value} {m1 m2 m3 : Nat} {dep : Nat → Int} {wh : Bool} (h : CkC w B gf op i rl m1 m2 m3 dep wh) (hs : w.heap.size ≤ w'.heap.size) (hb : w'.heap[B]? = w.heap[B]?) : CkC w' B gf op i rl m1 m2 m3 dep wh :=
  ⟨Nat.lt_of_lt_of_le h.lt hs, (cell_blk hb).trans h.c0, (cell_blk hb).trans h.c1, (cell_blk hb).trans h.c2, (cell_blk hb).trans h.c3, fun q hq => (cell_blk hb).trans (h.cd q hq), (cell_blk hb).trans h.c20, (cell_blk hb).trans h.c21, (cell_blk hb).trans h.c22, (cell_blk hb).trans h.c23⟩
theorem ScC.same {w w' : World} {g o go k : Nat} {x : Sv} (h : ScC w g o go k x) (hb : w'.heap[go]? = w.heap[go]?) : ScC w' g o go k x :=
  ⟨(cell_blk hb).trans h.c0, (cell_blk hb).trans h.c1, (cell_blk hb).trans h.c2, (cell_blk hb).trans h.c3, (cell_blk hb).trans h.c4, (cell_blk hb).trans h.c5, (cell_blk hb).trans h.c6, (cell_blk hb).trans h.c7⟩
end Go.Proofs.YtjjhfiddebmgcaaGreatDoor

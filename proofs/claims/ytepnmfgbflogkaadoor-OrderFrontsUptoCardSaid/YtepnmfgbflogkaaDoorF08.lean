/- OrW, OrX. -/
import Derived.Test.YtepnmfgbflogkaaDoorF07
namespace Go.Proofs.YtepnmfgbflogkaaDoor
open Go.ChangeShapes Go.WideShapes Go.ChangeAt Go.RowKit Go.Shelf Go.Maps

/-- A call. -/
structure Cl where
  k : Int
  nm : ByteArray
  ws : Value
  cnt : Int
  tx : ByteArray
abbrev caV (c : Cl) : Value := .agg #[.int .i64 c.k, .string c.nm, c.ws, .int .i64 c.cnt, .string c.tx]
abbrev caO (c : Cl) : Obj := .cells #[.int .i64 c.k, .string c.nm, c.ws, .int .i64 c.cnt, .string c.tx] 45
/-- The machine as a taker meets it: y is innermost. -/
structure TM (l : List Tk) (w : World) (a go cap n lo hi : Nat) (zs : List (Nat × Lv)) (ent : Int) (y : Nat × Lv) : Prop where
  s : SM w a go cap (n + 1) zs ent
  ey : zs[n]? = some y
  p : PtA l w lo hi y.1 y.2.p
  al : a < lo ∨ hi ≤ a
  gl : hi ≤ go
theorem PtA.below {l : List Tk} {W W' : World} {lo hi g p : Nat} (h : PtA l W lo hi g p) (hh : hi ≤ W.heap.size) (hb : Below W.heap.size W W') : PtA l W' lo hi g p := h.same fun k _ hk => hb.block k (by omega)
theorem TM.below {l : List Tk} {w w' : World} {a go cap n lo hi : Nat} {zs : List (Nat × Lv)} {ent : Int} {y : Nat × Lv} (h : TM l w a go cap n lo hi zs ent y) (hb : Below w.heap.size w w') : TM l w' a go cap n lo hi zs ent y :=
  ⟨h.s.below hb, h.ey, h.p.below (by have := h.s.lt.2; have := h.gl; omega) hb, h.al, h.gl⟩
theorem TM.hn {l : List Tk} {w : World} {a go cap n lo hi : Nat} {zs : List (Nat × Lv)} {ent : Int} {y : Nat × Lv} (h : TM l w a go cap n lo hi zs ent y) : n < 1000000 := by have := h.s.kl; have := h.s.zl; omega
/-- The cells of the innermost. -/
theorem TM.cs {l : List Tk} {w : World} {a go cap n lo hi : Nat} {zs : List (Nat × Lv)} {ent : Int} {y : Nat × Lv} (h : TM l w a go cap n lo hi zs ent y) : w.cell? ⟨go, n * 4, none⟩ = some (.pointer (some ⟨y.1, 0, none⟩)) ∧ w.cell? ⟨go, n * 4 + 1, none⟩ = some (.int .i64 y.2.left) ∧ w.cell? ⟨go, n * 4 + 2, none⟩ = some (.bool y.2.begun) ∧ w.cell? ⟨go, n * 4 + 3, none⟩ = some (.int .i64 (y.2.come : Int)) :=
  ⟨h.s.o.at h.ey 0 (by omega), h.s.o.at h.ey 1 (by omega), h.s.o.at h.ey 2 (by omega), h.s.o.at h.ey 3 (by omega)⟩
theorem TM.fz {l : List Tk} {w : World} {a go cap n lo hi : Nat} {zs : List (Nat × Lv)} {ent : Int} {y : Nat × Lv} (h : TM l w a go cap n lo hi zs ent y) (o : Nat) : w.frozen? ⟨go, o, none⟩ = false := by
  obtain ⟨cur, h1, _⟩ := h.s.o
  simp [World.frozen?, h1]
/-- One cell of what is open written. -/
theorem Op4.set {W : World} {go cap n j : Nat} {zs : List (Nat × Lv)} (h : Op4 W go cap zs) {y y' : Nat × Lv} (hy : zs[n]? = some y) (hj : j < 4) {v : Value} (hv : (lvC y.1 y.2).set j v = lvC y'.1 y'.2) : Op4 (W.setCell ⟨go, n * 4 + j, none⟩ v) go cap (zs.set n y') := by
  obtain ⟨cur, h1, h2, h3, h4, h5⟩ := h
  have hn := (List.getElem?_eq_some_iff.1 hy).1
  have e : (W.setCell ⟨go, n * 4 + j, none⟩ v).heap = W.heap.modify go (fun o => match o with
      | .cells cs t f => .cells (cs.setIfInBounds (n * 4 + j) v) t f
      | o => o) := rfl
  refine ⟨cur.setIfInBounds (n * 4 + j) v, ?_, by rw [List.length_set]; exact h2, h3, by simp [h4], ?_⟩
  · rw [e, Array.getElem?_modify, if_pos rfl, h1]
    rfl
  · rw [List.length_set, Array.toList_setIfInBounds, List.take_set, h5]
    clear h1 h2 h3 h4 h5 e
    induction zs generalizing n with
    | nil => cases hy
    | cons z zs ih =>
      cases n with
      | zero =>
        cases hy
        rw [lvCs, Nat.zero_mul, Nat.zero_add, List.set_append_left _ _ (by show j < 4; omega), hv]
        rfl
      | succ n =>
        rw [lvCs, List.set_append_right _ _ (by show 4 ≤ _; omega)]
        have hl : (lvC z.1 z.2).length = 4 := rfl
        rw [hl, show (n + 1) * 4 + j - 4 = n * 4 + j by omega, ih hy (by simpa using hn)]
        rfl
theorem SM.set {W : World} {a go cap n j : Nat} {zs : List (Nat × Lv)} {ent : Int} (h : SM W a go cap (n + 1) zs ent) {y y' : Nat × Lv} (hy : zs[n]? = some y) (hj : j < 4) {v : Value} (hv : (lvC y.1 y.2).set j v = lvC y'.1 y'.2) : SM (W.setCell ⟨go, n * 4 + j, none⟩ v) a go cap (n + 1) (zs.set n y') ent ∧ Kb [go] W (W.setCell ⟨go, n * 4 + j, none⟩ v) ∧ (zs.set n y')[n]? = some y' := by
  have hn := (List.getElem?_eq_some_iff.1 hy).1
  have hb : (W.setCell ⟨go, n * 4 + j, none⟩ v).heap[a]? = W.heap[a]? := Below.heap_setCell W _ _ _ h.ne
  exact ⟨⟨hb.trans h.c, h.o.set hy hj hv, by rw [List.length_set]; exact h.kl, h.k1, h.ne, by rw [List.length_set]; exact h.zl⟩, (Kb.of_below (Below.refl _ _)).set (List.mem_singleton.2 rfl) _, by rw [List.getElem?_set_self hn]⟩
/-- The innermost written as a whole. -/
theorem SM.put {W : World} {a go cap n : Nat} {zs : List (Nat × Lv)} {ent : Int} (h : SM W a go cap (n + 1) zs ent) {y : Nat × Lv} (hy : zs[n]? = some y) (y' : Nat × Lv) :
    SM ((((W.setCell ⟨go, n * 4, none⟩ (.pointer (some ⟨y'.1, 0, none⟩))).setCell ⟨go, n * 4 + 1, none⟩ (.int .i64 y'.2.left)).setCell ⟨go, n * 4 + 2, none⟩ (.bool y'.2.begun)).setCell ⟨go, n * 4 + 3, none⟩ (.int .i64 (y'.2.come : Int))) a go cap (n + 1) (zs.set n y') ent ∧
    Kb [go] W ((((W.setCell ⟨go, n * 4, none⟩ (.pointer (some ⟨y'.1, 0, none⟩))).setCell ⟨go, n * 4 + 1, none⟩ (.int .i64 y'.2.left)).setCell ⟨go, n * 4 + 2, none⟩ (.bool y'.2.begun)).setCell ⟨go, n * 4 + 3, none⟩ (.int .i64 (y'.2.come : Int))) := by
  obtain ⟨s1, k1, e1⟩ := h.set (j := 0) hy (by omega) (v := .pointer (some ⟨y'.1, 0, none⟩)) (y' := (y'.1, y.2)) rfl
  obtain ⟨s2, k2, e2⟩ := s1.set (j := 1) e1 (by omega) (v := .int .i64 y'.2.left) (y' := (y'.1, ⟨y'.2.p, y'.2.left, y.2.begun, y.2.come⟩)) rfl
  obtain ⟨s3, k3, e3⟩ := s2.set (j := 2) e2 (by omega) (v := .bool y'.2.begun) (y' := (y'.1, ⟨y'.2.p, y'.2.left, y'.2.begun, y.2.come⟩)) rfl
  obtain ⟨s4, k4, e4⟩ := s3.set (j := 3) e3 (by omega) (v := .int .i64 (y'.2.come : Int)) (y' := y') rfl
  rw [List.set_set, List.set_set, List.set_set] at s4
  exact ⟨s4, ((k1.trans k2).trans k3).trans k4⟩
theorem SM.drew {W : World} {a go cap k : Nat} {zs : List (Nat × Lv)} {ent : Int} (h : SM W a go cap k zs ent) : SM W.drew a go cap k zs ent := ⟨h.c, h.o, h.kl, h.k1, h.ne, h.zl⟩
theorem cl_new (w : World) (c : Cl) : (w.alloc (caO c)).cell? ⟨w.heap.size, 0, none⟩ = some (.int .i64 c.k) ∧ (w.alloc (caO c)).cell? ⟨w.heap.size, 1, none⟩ = some (.string c.nm) ∧ (w.alloc (caO c)).cell? ⟨w.heap.size, 3, none⟩ = some (.int .i64 c.cnt) :=
  ⟨cell_at (heap_al _ _) 0, cell_at (heap_al _ _) 1, cell_at (heap_al _ _) 3⟩
set_option maxRecDepth 20000 in
set_option maxHeartbeats 4000000 in
theorem next_any (l : List Tk) (a go cap n lo hi : Nat) (zs : List (Nat × Lv)) (ent : Int) (y : Nat × Lv) (c : Cl) (w : World) (h : TM l w a go cap n lo hi zs ent y) (ho : LvOk l y.2) :
    Calls Tryd.prog 32 #[.pointer (some ⟨a, 0, none⟩), caV c] w fun r w' =>
      (y.2.left = 0 ∨ (y.2.begun = true ∧ wholeB l y.2 = false) → r = .returned (.int .i64 140) ∧ Below w.heap.size w w') ∧
      (¬ (y.2.left = 0 ∨ (y.2.begun = true ∧ wholeB l y.2 = false)) → r = .returned (.int .i64 0) ∧ SM w' a go cap (n + 1) (zs.set n (y.1, ⟨y.2.p, y.2.left - 1, true, 0⟩)) ent ∧ Kb [go] w w') := by
  have hB : Hid (Below w.heap.size w (w.alloc (caO c))) := ⟨bel1 _ _⟩
  have h1 := h.below hB.out
  have hn := h.hn
  have cT := otop_any a go n cap _ h1.s.c0 (by omega)
  have K : Hid (∀ W, Below (w.alloc (caO c)).heap.size (w.alloc (caO c)) W → TM l W a go cap n lo hi zs ent y ∧ Below w.heap.size w W) := ⟨fun W hb => ⟨h1.below hb, hB.out.trans (hb.mono hB.out.size)⟩⟩
  have hgl : Hid (go < w.heap.size) := ⟨h.s.lt.2⟩
  have l0 := ho.l0
  have l1 := ho.l1
  generalize hW : w.alloc (caO c) = W at cT K hB h1
  simp only [caO] at hW
  clear h h1
  obtain ⟨g, xp, xl, xb, xc⟩ := y
  simp only at l0 l1 ⊢
  by_cases h0 : xl = 0
  · have b1 : (xl == 0) = true := by simp [h0]
    have HX : Hid (xl = 0) := ⟨h0⟩
    clear h0
    go_enter Tryd.func32, Tryd.ntmps32
    go_wp2_with (go_at_call 20; refine cT.mono ?_; rintro _ w1 ⟨rfl, hb1⟩; obtain ⟨t0, t1, t2, t3⟩ := (K.out w1 hb1).1.cs; replace hb1 : Hid _ := ⟨hb1⟩)
    go_ret
    exact ⟨fun _ => ⟨rfl, (K.out _ hb1.out).2⟩, fun hn => absurd (.inl HX.out) hn⟩
  · have b1 : (xl == 0) = false := by simp [h0]
    cases hw : wholeB l ⟨xp, xl, xb, xc⟩ with
    | false =>
      cases xb with
      | true =>
        have HX : Hid (xl = 0 ∨ True ∧ True) := ⟨.inr ⟨trivial, trivial⟩⟩
        have cW := fun W hb => isWhole_any l g ⟨xp, xl, true, xc⟩ W (K.out W hb).1.p.rw
        rw [hw] at cW
        replace cW : Hid _ := ⟨cW⟩
        clear h0 hw
        go_enter Tryd.func32, Tryd.ntmps32
        go_wp2_with (first
          | (go_at_call 20; refine cT.mono ?_; rintro _ w1 ⟨rfl, hb1⟩; obtain ⟨t0, t1, t2, t3⟩ := (K.out w1 hb1).1.cs)
          | (go_at_call 29; refine (cW.out w1 hb1).mono ?_; rintro _ w2 ⟨rfl, hb2⟩; have hb3 : Hid (Below W.heap.size W w2) := ⟨hb1.trans (hb2.mono hb1.size)⟩))
        go_ret
        exact ⟨fun _ => ⟨rfl, (K.out _ hb3.out).2⟩, fun hn => absurd (by simp) hn⟩
      | false =>
        have HX : Hid (xl ≠ 0) := ⟨h0⟩
        clear h0 hw
        go_enter Tryd.func32, Tryd.ntmps32
        go_wp2_with (go_at_call 20; refine cT.mono ?_; rintro _ w1 ⟨rfl, hb1⟩; obtain ⟨t0, t1, t2, t3⟩ := (K.out w1 hb1).1.cs; have z0 := (K.out w1 hb1).1.fz (n * 4); have z1 := (K.out w1 hb1).1.fz (n * 4 + 1); have z2 := (K.out w1 hb1).1.fz (n * 4 + 2); have z3 := (K.out w1 hb1).1.fz (n * 4 + 3); replace hb1 : Hid _ := ⟨hb1⟩)
        go_region
        go_wp2_with fail
        go_ret
        obtain ⟨hT, hBw⟩ := K.out w1 hb1.out
        obtain ⟨q1, q2⟩ := hT.s.put hT.ey (g, ⟨xp, xl - 1, true, 0⟩)
        exact ⟨fun hn => absurd hn (by simp [HX.out]), fun _ => ⟨rfl, q1.drew, (Kb.of_below hBw).trans (kbdr q2)⟩⟩
    | true =>
      obtain rfl : xb = true := by
        cases xb with
        | true => rfl
        | false => unfold wholeB at hw; cases hw
      have HX : Hid (xl ≠ 0) := ⟨h0⟩
      have cW := fun W hb => isWhole_any l g ⟨xp, xl, true, xc⟩ W (K.out W hb).1.p.rw
      rw [hw] at cW
      replace cW : Hid _ := ⟨cW⟩
      clear h0 hw
      go_enter Tryd.func32, Tryd.ntmps32
      go_wp2_with (first
        | (go_at_call 20; refine cT.mono ?_; rintro _ w1 ⟨rfl, hb1⟩; obtain ⟨t0, t1, t2, t3⟩ := (K.out w1 hb1).1.cs)
        | (go_at_call 29; refine (cW.out w1 hb1).mono ?_; rintro _ w2 ⟨rfl, hb2⟩; have hb3 : Hid (Below W.heap.size W w2) := ⟨hb1.trans (hb2.mono hb1.size)⟩; obtain ⟨s0, s1, s2, s3⟩ := (K.out w2 hb3.out).1.cs; have z0 := (K.out w2 hb3.out).1.fz (n * 4); have z1 := (K.out w2 hb3.out).1.fz (n * 4 + 1); have z2 := (K.out w2 hb3.out).1.fz (n * 4 + 2); have z3 := (K.out w2 hb3.out).1.fz (n * 4 + 3); clear t0 t1 t2 t3))
      go_region
      go_wp2_with fail
      go_ret
      obtain ⟨hT, hBw⟩ := K.out w2 hb3.out
      obtain ⟨q1, q2⟩ := hT.s.put hT.ey (g, ⟨xp, xl - 1, true, 0⟩)
      exact ⟨fun hn => absurd hn (by simp [HX.out]), fun _ => ⟨rfl, q1.drew, (Kb.of_below hBw).trans (kbdr q2)⟩⟩
end Go.Proofs.YtepnmfgbflogkaaDoor
namespace Go.Proofs.YtepnmfgbflogkaaDoor
open Go.ChangeShapes Go.WideShapes Go.ChangeAt Go.RowKit Go.Shelf Go.Maps

/-- What member answers. -/
def MemPost (l : List Tk) (w : World) (a go cap n lo hi : Nat) (zs : List (Nat × Lv)) (ent : Int) (y : Nat × Lv) (o : Option Nat) (r : Ending) (w' : World) : Prop := match o with
  | none => r = .returned (.tuple #[.pointer none, .int .i64 140]) ∧ Below w.heap.size w w'
  | some q => ∃ g, r = .returned (.tuple #[.pointer (some ⟨g, 0, none⟩), .int .i64 0]) ∧ PtA l w' lo hi g q ∧ SM w' a go cap (n + 1) (zs.set n (y.1, ⟨y.2.p, y.2.left, y.2.begun, y.2.come + 1⟩)) ent ∧ Kb [go] w w'
theorem toList_inj {a b : ByteArray} (h : a.toList = b.toList) : a = b := by
  rw [ByteArray.toList_eq, ByteArray.toList_eq] at h
  exact ByteArray.ext (Array.toList_inj.1 h)
theorem res2 {P : Program} {fn : Func} {p q : Tmp} (h : fn.results = #[.tmp p, .tmp q]) (tmps : Array Value) (w : World) : (results fn tmps).run P w = .ok (.tuple #[tmps.getD p undef, tmps.getD q undef]) w := by
  simp [results, h]
set_option maxRecDepth 20000 in
set_option maxHeartbeats 4000000 in
theorem member_any (l : List Tk) (a go cap n lo hi : Nat) (zs : List (Nat × Lv)) (ent : Int) (y : Nat × Lv) (c : Cl) (w : World) (h : TM l w a go cap n lo hi zs ent y) (ho : LvOk l y.2) (hll : (rowZ l y.2.p).length ≤ 733007751850) :
    Calls Tryd.prog 40 #[.pointer (some ⟨a, 0, none⟩), caV c] w fun r w' => MemPost l w a go cap n lo hi zs ent y (memZ l y.2 c.k c.nm) r w' := by
  have hB : Hid (Below w.heap.size w (w.alloc (caO c))) := ⟨bel1 _ _⟩
  have h1 := h.below hB.out
  have hn := h.hn
  have cT := otop_any a go n cap _ h1.s.c0 (by omega)
  have K : Hid (∀ W, Below (w.alloc (caO c)).heap.size (w.alloc (caO c)) W → TM l W a go cap n lo hi zs ent y ∧ Below w.heap.size w W) := ⟨fun W hb => ⟨h1.below hb, hB.out.trans (hb.mono hB.out.size)⟩⟩
  have hsz : Hid ((w.alloc (caO c)).heap.size = w.heap.size + 1) := ⟨World.size_alloc _ _⟩
  have C : Hid (∀ W, Below (w.alloc (caO c)).heap.size (w.alloc (caO c)) W → W.cell? ⟨w.heap.size, 0, none⟩ = some (.int .i64 c.k) ∧ W.cell? ⟨w.heap.size, 1, none⟩ = some (.string c.nm)) := ⟨fun W hb => by
    obtain ⟨e0, e1, _⟩ := cl_new w c
    exact ⟨(hb.cell (p := ⟨w.heap.size, 0, none⟩) (by show w.heap.size < _; have := hsz.out; omega)).trans e0, (hb.cell (p := ⟨w.heap.size, 1, none⟩) (by show w.heap.size < _; have := hsz.out; omega)).trans e1⟩⟩
  have hle := ho.le
  generalize hW : w.alloc (caO c) = W at cT K hB C
  simp only [caO] at hW
  clear h h1 hsz
  obtain ⟨g, xp, xl, xb, xc⟩ := y
  simp only at hle hll ⊢
  cases xb with
  | false =>
    have hm : memZ l ⟨xp, xl, false, xc⟩ c.k c.nm = none := rfl
    rw [hm]
    suffices hh : Calls Tryd.prog 40 #[.pointer (some ⟨a, 0, none⟩), caV c] w fun r w' => r = .returned (.tuple #[.pointer none, .int .i64 140]) ∧ Below w.heap.size w w' from hh.mono fun _ _ h => h
    clear hm
    go_enter Tryd.func40, Tryd.ntmps40
    go_wp2_with (go_at_call 20; refine cT.mono ?_; rintro _ w1 ⟨rfl, hb1⟩; obtain ⟨t0, t1, t2, t3⟩ := (K.out w1 hb1).1.cs; replace hb1 : Hid _ := ⟨hb1⟩)
    exact bodyPost_ret (res2 rfl _ _) rfl ⟨rfl, (K.out _ hb1.out).2⟩
  | true =>
    have cW := fun W hb => isWhole_any l g ⟨xp, xl, true, xc⟩ W (K.out W hb).1.p.rw
    by_cases hxc : xc = (rowZ l xp).length
    · have hw : wholeB l ⟨xp, xl, true, xc⟩ = true := by unfold wholeB; simp [hxc]
      rw [hw] at cW
      have hm : memZ l ⟨xp, xl, true, xc⟩ c.k c.nm = none := by unfold memZ; simp [hxc]
      rw [hm]
      suffices hh : Calls Tryd.prog 40 #[.pointer (some ⟨a, 0, none⟩), caV c] w fun r w' => r = .returned (.tuple #[.pointer none, .int .i64 140]) ∧ Below w.heap.size w w' from hh.mono fun _ _ h => h
      replace cW : Hid _ := ⟨cW⟩
      clear hm hw hxc
      go_enter Tryd.func40, Tryd.ntmps40
      go_wp2_with (first
        | (go_at_call 20; refine cT.mono ?_; rintro _ w1 ⟨rfl, hb1⟩; obtain ⟨t0, t1, t2, t3⟩ := (K.out w1 hb1).1.cs)
        | (go_at_call 29; refine (cW.out w1 hb1).mono ?_; rintro _ w2 ⟨rfl, hb2⟩; have hb3 : Hid (Below W.heap.size W w2) := ⟨hb1.trans (hb2.mono hb1.size)⟩))
      exact bodyPost_ret (res2 rfl _ _) rfl ⟨rfl, (K.out _ hb3.out).2⟩
    · have hw : wholeB l ⟨xp, xl, true, xc⟩ = false := by unfold wholeB; simp [hxc]
      rw [hw] at cW
      have hlt : xc < (rowZ l xp).length := by omega
      obtain ⟨q, hq⟩ : ∃ q, (rowZ l xp)[xc]? = some q := ⟨(rowZ l xp)[xc], List.getElem?_eq_getElem hlt⟩
      have hm : memZ l ⟨xp, xl, true, xc⟩ c.k c.nm = if knd (opAt l q) = c.k ∧ nmAt l q = c.nm then some q else none := by unfold memZ; simp [hq]
      rw [hm]
      have hT0 := (K.out W (Below.refl _ _)).1
      obtain ⟨m, k, pr, cr, e1, e2, e3⟩ := hT0.p.row
      obtain ⟨r, g', rfl, er, hPq⟩ := e3 xc q hq
      obtain ⟨m', k', pr', cr', f1, -, -⟩ := hPq.row
      have hgW : g < W.heap.size := (Array.getElem?_eq_some_iff.1 e1).1
      have hgW' : g' < W.heap.size := (Array.getElem?_eq_some_iff.1 f1).1
      have hrW : r < W.heap.size := by
        rcases Nat.lt_or_ge r W.heap.size with h | h
        · exact h
        · simp [World.cell?, Array.getElem?_eq_none h] at er
      have hhi : hi ≤ W.heap.size := by have := hT0.gl; have := hT0.s.lt.2; omega
      have R : Hid (∀ W', Below W.heap.size W W' → W'.cell? ⟨g, 5, none⟩ = some (.slice (some ⟨r, 0, none⟩) (rowZ l xp).length cr) ∧ W'.cell? ⟨r, xc, none⟩ = some (.pointer (some ⟨g', 0, none⟩)) ∧ W'.cell? ⟨g', 0, none⟩ = some (.int .i64 (knd (opAt l q))) ∧ W'.cell? ⟨g', 1, none⟩ = some (.string (nmAt l q)) ∧ PtA l W' lo hi g' q) := ⟨fun W' hb =>
        ⟨(hb.cell (p := ⟨g, 5, none⟩) hgW).trans (cell_at e1 5), (hb.cell (p := ⟨r, xc, none⟩) hrW).trans er, (hb.cell (p := ⟨g', 0, none⟩) hgW').trans (cell_at f1 0), (hb.cell (p := ⟨g', 1, none⟩) hgW').trans (cell_at f1 1), hPq.below hhi hb⟩⟩
      replace cW : Hid _ := ⟨cW⟩
      have hxi : (xc : Int) < ((rowZ l xp).length : Int) := by omega
      generalize (rowZ l xp).length = N at hxi hll R
      clear hm hw hxc hle hlt hq hT0 e1 e2 e3 er hPq f1 hgW hgW' hrW hhi
      generalize knd (opAt l q) = kd at R ⊢
      generalize nmAt l q = sq at R ⊢
      by_cases hk : kd = c.k
      · have bk : (kd != c.k) = false := by simp [hk]
        have bk' : (kd == c.k) = true := by simp [hk]
        by_cases hs : sq = c.nm
        · have bs : (sq.toList != c.nm.toList) = false := by simp [hs]
          have bs' : (sq.toList == c.nm.toList) = true := by simp [hs]
          rw [if_pos ⟨hk, hs⟩]
          suffices hh : Calls Tryd.prog 40 #[.pointer (some ⟨a, 0, none⟩), caV c] w fun r w' => ∃ g', r = .returned (.tuple #[.pointer (some ⟨g', 0, none⟩), .int .i64 0]) ∧ PtA l w' lo hi g' q ∧ SM w' a go cap (n + 1) (zs.set n (g, ⟨xp, xl, true, xc + 1⟩)) ent ∧ Kb [go] w w' from hh.mono fun _ _ h => h
          clear hk hs
          have hw1 : IntKind.i64.wrap ((xc : Int) + 1) = (xc : Int) + 1 := by rw [IntKind.wrap_i64]; omega
          go_enter Tryd.func40, Tryd.ntmps40
          go_wp2_with (first
            | (go_at_call 20; refine cT.mono ?_; rintro _ w1 ⟨rfl, hb1⟩; obtain ⟨t0, t1, t2, t3⟩ := (K.out w1 hb1).1.cs)
            | (go_at_call 29; refine (cW.out w1 hb1).mono ?_; rintro _ w2 ⟨rfl, hb2⟩; have hb3 : Hid (Below W.heap.size W w2) := ⟨hb1.trans (hb2.mono hb1.size)⟩; obtain ⟨s0, s1, s2, s3⟩ := (K.out w2 hb3.out).1.cs; obtain ⟨u5, ur, v0, v1, -⟩ := R.out w2 hb3.out; obtain ⟨x0, x1⟩ := C.out w2 hb3.out; have z3 := (K.out w2 hb3.out).1.fz (n * 4 + 3); clear t0 t1 t2 t3; replace hb2 : Hid _ := ⟨hb2⟩))
          go_quiet (fail)
          generalize nq = n1
          go_wp2_with fail
          go_quiet (fail)
          generalize nq = n2
          go_wp2_with fail
          refine bodyPost_ret (res2 rfl _ _) rfl ?_
          have hbd : Below W.heap.size W (w2.drewN (n1 + n2)) := tdr hb3.out
          obtain ⟨hT, hBw⟩ := K.out _ hbd
          obtain ⟨q1, q2, -⟩ := hT.s.set (j := 3) hT.ey (by omega) (v := .int .i64 ((xc : Int) + 1)) (y' := (g, ⟨xp, xl, true, xc + 1⟩)) rfl
          exact ⟨g', rfl, (R.out _ hbd).2.2.2.2.same (fun j _ hj => Below.heap_setCell _ _ _ _ (by have := hT.gl; show j ≠ go; omega)), q1, (Kb.of_below hBw).trans q2⟩
        · have bs : (sq.toList != c.nm.toList) = true := by simp only [bne_iff_ne, ne_eq]; exact fun e => hs (toList_inj e)
          have bs' : (sq.toList == c.nm.toList) = false := beq_eq_false_iff_ne.2 fun e => hs (toList_inj e)
          rw [if_neg (fun e => hs e.2)]
          suffices hh : Calls Tryd.prog 40 #[.pointer (some ⟨a, 0, none⟩), caV c] w fun r w' => r = .returned (.tuple #[.pointer none, .int .i64 140]) ∧ Below w.heap.size w w' from hh.mono fun _ _ h => h
          clear hk hs
          go_enter Tryd.func40, Tryd.ntmps40
          go_wp2_with (first
            | (go_at_call 20; refine cT.mono ?_; rintro _ w1 ⟨rfl, hb1⟩; obtain ⟨t0, t1, t2, t3⟩ := (K.out w1 hb1).1.cs)
            | (go_at_call 29; refine (cW.out w1 hb1).mono ?_; rintro _ w2 ⟨rfl, hb2⟩; have hb3 : Hid (Below W.heap.size W w2) := ⟨hb1.trans (hb2.mono hb1.size)⟩; obtain ⟨s0, s1, s2, s3⟩ := (K.out w2 hb3.out).1.cs; obtain ⟨u5, ur, v0, v1, -⟩ := R.out w2 hb3.out; obtain ⟨x0, x1⟩ := C.out w2 hb3.out; have z3 := (K.out w2 hb3.out).1.fz (n * 4 + 3); clear t0 t1 t2 t3; replace hb2 : Hid _ := ⟨hb2⟩))
          go_quiet (fail)
          generalize nq = n1
          go_wp2_with fail
          go_quiet (fail)
          generalize nq = n2
          go_wp2_with fail
          refine bodyPost_ret (res2 rfl _ _) rfl ?_
          exact ⟨rfl, (K.out _ (tdr (tdr hb3.out))).2⟩
      · have bk : (kd != c.k) = true := by simp [hk]
        have bk' : (kd == c.k) = false := by simp [hk]
        rw [if_neg (fun e => hk e.1)]
        suffices hh : Calls Tryd.prog 40 #[.pointer (some ⟨a, 0, none⟩), caV c] w fun r w' => r = .returned (.tuple #[.pointer none, .int .i64 140]) ∧ Below w.heap.size w w' from hh.mono fun _ _ h => h
        clear hk
        go_enter Tryd.func40, Tryd.ntmps40
        go_wp2_with (first
          | (go_at_call 20; refine cT.mono ?_; rintro _ w1 ⟨rfl, hb1⟩; obtain ⟨t0, t1, t2, t3⟩ := (K.out w1 hb1).1.cs)
          | (go_at_call 29; refine (cW.out w1 hb1).mono ?_; rintro _ w2 ⟨rfl, hb2⟩; have hb3 : Hid (Below W.heap.size W w2) := ⟨hb1.trans (hb2.mono hb1.size)⟩; obtain ⟨s0, s1, s2, s3⟩ := (K.out w2 hb3.out).1.cs; obtain ⟨u5, ur, v0, v1, -⟩ := R.out w2 hb3.out; obtain ⟨x0, x1⟩ := C.out w2 hb3.out; have z3 := (K.out w2 hb3.out).1.fz (n * 4 + 3); clear t0 t1 t2 t3; replace hb2 : Hid _ := ⟨hb2⟩))
        go_quiet (fail)
        generalize nq = n1
        go_wp2_with fail
        go_quiet (fail)
        generalize nq = n2
        go_wp2_with fail
        refine bodyPost_ret (res2 rfl _ _) rfl ?_
        exact ⟨rfl, (K.out _ (tdr (tdr hb3.out))).2⟩
set_option maxRecDepth 20000 in
theorem data_any (l : List Tk) (a go cap n lo hi : Nat) (zs : List (Nat × Lv)) (ent : Int) (y : Nat × Lv) (c : Cl) (w : World) (h : TM l w a go cap n lo hi zs ent y) (ho : LvOk l y.2) (hll : (rowZ l y.2.p).length ≤ 733007751850) :
    Calls Tryd.prog 33 #[.pointer (some ⟨a, 0, none⟩), caV c] w fun r w' =>
      (memZ l y.2 c.k c.nm = none → r = .returned (.int .i64 140) ∧ Below w.heap.size w w') ∧
      (memZ l y.2 c.k c.nm ≠ none → r = .returned (.int .i64 0) ∧ SM w' a go cap (n + 1) (zs.set n (y.1, ⟨y.2.p, y.2.left, y.2.begun, y.2.come + 1⟩)) ent ∧ Kb [go] w w') := by
  have hB : Hid (Below w.heap.size w (w.alloc (caO c))) := ⟨bel1 _ _⟩
  have cM := member_any l a go cap n lo hi zs ent y c _ (h.below hB.out) ho hll
  obtain ⟨c0, c1, c3⟩ := cl_new w c
  have c2 : (w.alloc (caO c)).cell? ⟨w.heap.size, 2, none⟩ = some c.ws := cell_at (heap_al _ _) 2
  have c4 : (w.alloc (caO c)).cell? ⟨w.heap.size, 4, none⟩ = some (.string c.tx) := cell_at (heap_al _ _) 4
  generalize hW : w.alloc (caO c) = W at cM hB c0 c1 c2 c3 c4
  simp only [caO] at hW
  clear h ho hll
  cases hm : memZ l y.2 c.k c.nm with
  | none =>
    rw [hm] at cM
    have cM : Hid (Calls Tryd.prog 40 #[.pointer (some ⟨a, 0, none⟩), caV c] W fun r w' => r = .returned (.tuple #[.pointer none, .int .i64 140]) ∧ Below W.heap.size W w') := ⟨cM⟩
    clear hm
    go_enter Tryd.func33, Tryd.ntmps33
    go_wp2_with (go_at_call 40; refine cM.out.mono ?_; rintro _ w1 ⟨rfl, hb1⟩; replace hb1 : Hid _ := ⟨hb1⟩)
    go_ret
    exact ⟨fun _ => ⟨rfl, hB.out.trans (hb1.out.mono hB.out.size)⟩, fun h => absurd rfl h⟩
  | some q =>
    rw [hm] at cM
    have cM : Hid (Calls Tryd.prog 40 #[.pointer (some ⟨a, 0, none⟩), caV c] W fun r w' => ∃ g, r = .returned (.tuple #[.pointer (some ⟨g, 0, none⟩), .int .i64 0]) ∧ PtA l w' lo hi g q ∧ SM w' a go cap (n + 1) (zs.set n (y.1, ⟨y.2.p, y.2.left, y.2.begun, y.2.come + 1⟩)) ent ∧ Kb [go] W w') := ⟨cM⟩
    clear hm
    go_enter Tryd.func33, Tryd.ntmps33
    go_wp2_with (go_at_call 40; refine cM.out.mono ?_; rintro _ w1 ⟨g', rfl, h1, h2, h3⟩; replace h1 : Hid _ := ⟨h1⟩; replace h2 : Hid _ := ⟨h2⟩; replace h3 : Hid _ := ⟨h3⟩)
    go_ret
    exact ⟨fun h => (by cases h), fun _ => ⟨rfl, h2.out, (Kb.of_below hB.out).trans h3.out⟩⟩
end Go.Proofs.YtepnmfgbflogkaaDoor

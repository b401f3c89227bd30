/- IYn, OrP, OrT. -/
import Derived.Test.YtepnmfgbflogkaaDoorF04
import Derived.Maps.AppendAt
import Derived.Deep.AppendLies
import Derived.Test.YtepnmfgbflogkaaDoorF03
import Derived.Test.YtepnmfgbflogkaaDoorF05
import Derived.StringKeys
namespace Go.Proofs.YtepnmfgbflogkaaDoor
open Go.ChangeShapes Go.WideShapes Go.ChangeAt Go.RowKit Go.Shelf Go.Maps

theorem nbel (w : World) (o : Obj) : Below w.heap.size w (w.alloc o) := (Below.refl _ _).alloc (Nat.le_refl _) _
theorem thnK (w : World) (o : Obj) : (w.alloc o).heap[w.heap.size]? = some o := by
  show (w.heap.push o)[w.heap.size]? = some o
  simp
def cI (n : Nat) : Value := .int .i64 (n : Int)
/-- A row of places of one's own. -/
def NRow (W : World) (base : Nat) (v : Value) (ns : List Nat) : Prop := W.ownsRow base 3 1 v ns.length (ns.map cI)
theorem own_lower {w : World} {H H' n z : Nat} {ty : TypeId} {v : Value} {xs : List Value} (h : w.ownsRow H ty z v n xs) (hH : H' ≤ H) : w.ownsRow H' ty z v n xs := by
  refine ⟨h.1, ?_⟩
  rcases h.2 with h0 | ⟨g, cap, cur, e, hb', r⟩
  · exact .inl h0
  · exact .inr ⟨g, cap, cur, e, Nat.le_trans hH hb', r⟩
theorem own_keep {W W' : World} {base : Nat} {e : TypeId} {s : Nat} {v : Value} {n : Nat} {xs : List Value} (h : W.ownsRow base e s v n xs) (hb : Below W.heap.size W W') : W'.ownsRow base e s v n xs := by
  refine ⟨h.1, ?_⟩
  rcases h.2 with h0 | ⟨g, cap, cur, rfl, hb', hg, r⟩
  · exact .inl h0
  · exact .inr ⟨g, cap, cur, rfl, hb', (hb.block g (Array.getElem?_eq_some_iff.1 hg).1).trans hg, r⟩
theorem NRow.below {W W' : World} {base : Nat} {v : Value} {ns : List Nat} (h : NRow W base v ns) (hb : Below W.heap.size W W') : NRow W' base v ns := own_keep h hb
theorem NRow.low {W : World} {base base' : Nat} {v : Value} {ns : List Nat} (h : NRow W base v ns) (hB : base' ≤ base) : NRow W base' v ns := own_lower h hB
theorem NRow.nil (W : World) (base : Nat) : NRow W base (.slice none 0 0) [] := World.ownsRow_nil _ _ _ 1
theorem NRow.shape {W : World} {base : Nat} {v : Value} {ns : List Nat} (h : NRow W base v ns) : ∃ pp cp, v = .slice pp ns.length cp ∧ ∀ (i n : Nat), ns[i]? = some n → ∃ g, pp = some ⟨g, 0, none⟩ ∧ g < W.heap.size ∧ W.cell? ⟨g, i, none⟩ = some (.int .i64 (n : Int)) := by
  rcases h.2 with ⟨hv, hn⟩ | ⟨g, cap, cur, hv, _, hg, hc, _, hs, ht⟩
  · refine ⟨none, 0, by rw [hv, hn], fun i n hi => ?_⟩
    rw [List.eq_nil_of_length_eq_zero hn] at hi
    cases hi
  · refine ⟨_, _, hv, fun i n hi => ⟨g, rfl, (Array.getElem?_eq_some_iff.1 hg).1, ?_⟩⟩
    have hi2 : (ns.map cI)[i]? = some (.int .i64 (n : Int)) := by rw [List.getElem?_map, hi]; rfl
    rw [← ht] at hi2
    rw [List.getElem?_take] at hi2
    split at hi2
    · simp only [World.cell?, hg]
      rw [← hi2, Array.getElem?_toList]
      rfl
    · cases hi2
theorem grown_below {H : Nat} {w Wp w' : World} {v : Value} (hW : Below w.heap.size w Wp) (q2 : Wp.grownBy w' v.ownBlock) (hH : H ≤ w.heap.size) (hv : ∀ k, v.ownBlock = some k → H ≤ k) : Below H w w' :=
  ⟨q2.os.trans hW.os, q2.tape.trans hW.tape, q2.output.trans hW.output, Nat.le_trans hW.size q2.size, fun j hj => (q2.block j (by have := hW.size; omega) (fun e => by have := hv j e.symm; omega)).trans (hW.block j (by omega))⟩
theorem infoInt : (Tryd.prog.info? 3).map (fun i => (i.zero, i.size, i.bytes)) = some (some (.int .i64 0), 1, 8) := by kernel_rfl
/-- An append of one place. -/
theorem n_ap {wr : World} {base : Nat} {v : Value} {ns : List Nat} (k : Nat) (h : NRow wr base v ns) (hl : ns.length + 1 ≤ 977343669134) (hb : base ≤ wr.heap.size) :
    ∃ v' w', (∀ ty, (Builtin.append_ #[47, 47] ty #[v, .slice (some ⟨wr.heap.size, 0, none⟩) 1 1]).run Tryd.prog (wr.alloc (.cells #[.int .i64 (k : Int)] 3)) = .ok v' w') ∧ (NRow w' base v' (ns ++ [k]) ∧ Below base wr w') := by
  obtain ⟨i0, hi, hz⟩ := Option.map_eq_some_iff.1 infoInt
  simp only [Prod.mk.injEq] at hz
  have h1 := own_keep h (nbel wr (.cells #[.int .i64 (k : Int)] 3))
  have hN : ∀ (j : Nat) (u : Value), [Value.int .i64 (k : Int)][j]? = some u → (wr.alloc (.cells #[.int .i64 (k : Int)] 3)).cell? ((⟨wr.heap.size, 0, none⟩ : Addr).add j) = some u := World.news_of_block (thnK wr _)
  have hr := run_append_own_at (P := Tryd.prog) (wr.alloc (.cells #[.int .i64 (k : Int)] 3)) base 47 0 3 i0 _ 1 8 Tryd.underlying47 hi hz.1 hz.2.1 hz.2.2 rfl (by decide) v ns.length (ns.map cI) h1 ⟨wr.heap.size, 0, none⟩ 1 1 [.int .i64 (k : Int)] rfl hN (fun u hu => by rw [List.mem_singleton.1 hu]; rfl) (by simp only [maxLen]; omega) (by omega) (by simp; omega)
  obtain ⟨v', w', h2, h3, h4, _⟩ := hr
  refine ⟨v', w', fun _ => h2, ?_, grown_below (nbel _ _) h4 hb (fun j hj => (h.lt j hj).1)⟩
  unfold NRow
  rw [List.length_append, List.map_append]
  exact h3
theorem ap_step {P : Program} {w : World} {ops : Array Oper} {rest : List Oper} {o : Oper} {a : Act} {Q : Exit → Act → World → Prop} (hgd : o.guard = none) (s x : Operand) (t tx : TypeId)
    (ho : o.op = .call { callee := .builtin .append, args := #[s, x], argTypes := #[t, tx] }) (sv xv : Value) (hs : a.eval s = sv) (hx : a.eval x = xv) (Post : Value → World → Prop)
    (hrun : ∃ v w', (∀ ty, (Builtin.append_ #[t, tx] ty #[sv, xv]).run P w = .ok v w') ∧ Post v w')
    (h : ∀ v w', Post v w' → wpList P ops Q rest (a.put o.dst v) w') : wpList P ops Q (o :: rest) a w := by
  obtain ⟨v, w', hr, hp⟩ := hrun
  refine wpList_plain hgd fun _ hK => ?_
  unfold Oper.wp execOp
  simp only [ho, resolve, invoke, builtin, Sem.run_bind, Sem.run_pure, Result.andThen_ok, List.map_toArray, List.map_cons, List.map_nil, hs, hx, hr]
  exact hK _ _ (h v w' hp)
end Go.Proofs.YtepnmfgbflogkaaDoor
namespace Go.Proofs.YtepnmfgbflogkaaDoor
open Go.ChangeShapes Go.WideShapes Go.ChangeAt Go.RowKit Go.Shelf Go.Maps

theorem lawS : Keyed Tryd.prog 9 := string_keyed Tryd.underlying9
theorem zeroU (w : World) : (zeroValue 90).run Tryd.prog w = .ok (.agg #[]) w := by kernel_rfl
theorem keyS (s : ByteArray) (hs : s.size ≤ maxLen) : keyOf Tryd.prog 9 (.string s) = some (.string s.data.toList) := by
  exact Go.WideMaps.keyOf_string_mk Tryd.underlying9 hs
/-- Block m is a set of at most n names that holds just hs. -/
def SHas (W : World) (m n : Nat) (hs : ByteArray → Prop) : Prop := ∃ D : DataW Unit, W.ownsMap Tryd.prog 9 unitElem m n D ∧ ∀ s : ByteArray, s.size ≤ maxLen → (Maps.has D (.string s.data.toList) = true ↔ hs s)
theorem SHas.same {W W' : World} {m n : Nat} {hs : ByteArray → Prop} (h : SHas W m n hs) (hb : W'.heap[m]? = W.heap[m]?) : SHas W' m n hs := by
  obtain ⟨D, ⟨es, ck, e, r⟩, h2⟩ := h
  exact ⟨D, ⟨es, ck, hb.trans e, r⟩, h2⟩
theorem SHas.lt {W : World} {m n : Nat} {hs : ByteArray → Prop} (h : SHas W m n hs) : m < W.heap.size := by
  obtain ⟨D, h1, h2⟩ := h
  exact h1.lt
theorem SHas.made (w : World) : SHas (w.alloc (.map #[] 0)) w.heap.size 0 (fun _ => False) :=
  ⟨_, World.ownsMap_made w _ _ _, fun s _ => by rw [has_nil]; simp⟩
theorem ba_inj {a b : ByteArray} (h : a.data.toList = b.data.toList) : a = b := ByteArray.ext (Array.toList_inj.1 h)
theorem SHas.put {W W' : World} {m n : Nat} {hs : ByteArray → Prop} {D : DataW Unit} (hD : W.ownsMap Tryd.prog 9 unitElem m n D) (h : ∀ s : ByteArray, s.size ≤ maxLen → (Maps.has D (.string s.data.toList) = true ↔ hs s)) {s0 : ByteArray} (hs0 : s0.size ≤ maxLen) {d : DataW Unit} (h' : W'.ownsMap Tryd.prog 9 unitElem m (n + 1) (D.put (.string s0.data.toList) d)) :
    SHas W' m (n + 1) (fun s => s = s0 ∨ hs s) := by
  refine ⟨_, h', fun s hs => ?_⟩
  by_cases e : s = s0
  · subst e
    rw [has_put_same hD.isMap (lawS.key (keyS s hs))]
    simp
  · rw [has_put_other (fun e' => e (ba_inj (by injection e'))), h s hs]
    simp [e]
/-- A part of the form: what begins at p, in block g; its blocks lie from lo on, below hi. -/
def PtC (l : List Tk) (W : World) (lo hi : Nat) : Nat → Nat → Nat → Prop
  | 0, _, _ => False
  | d + 1, g, p => (lo ≤ g ∧ g < hi) ∧ ∃ (m k : Nat) (v : Value) (gs : List Nat), W.heap[g]? = some (.cells #[.int .i64 (knd (opAt l p)), .string (nmAt l p), .int .i64 (p : Int), .int .u64 (gmax (bpAt l p)), .map (some m), v] 73) ∧
      (lo ≤ m ∧ m < hi ∧ SHas W m k (fun s => ∃ i ∈ fldZ l p, nmAt l i = s)) ∧ (∀ r, v.ownBlock = some r → r < hi) ∧ W.ownsRow lo 66 1 v gs.length (gs.map fun g => Value.pointer (some ⟨g, 0, none⟩)) ∧
      gs.length = (rowZ l p).length ∧ ∀ (j g' q : Nat), gs[j]? = some g' → (rowZ l p)[j]? = some q → PtC l W lo hi d g' q
theorem own_keepP {W W' : World} {base : Nat} {e : TypeId} {s : Nat} {v : Value} {n : Nat} {xs : List Value} (h : W.ownsRow base e s v n xs) (hb : ∀ k, v.ownBlock = some k → W'.heap[k]? = W.heap[k]?) : W'.ownsRow base e s v n xs := by
  refine ⟨h.1, ?_⟩
  rcases h.2 with h0 | ⟨g, cap, cur, rfl, hb', hg, r⟩
  · exact .inl h0
  · exact .inr ⟨g, cap, cur, rfl, hb', (hb g rfl).trans hg, r⟩
theorem PtC.same {l : List Tk} {W W' : World} {lo hi : Nat} (hb : ∀ k, lo ≤ k → k < hi → W'.heap[k]? = W.heap[k]?) : ∀ {d g p : Nat}, PtC l W lo hi d g p → PtC l W' lo hi d g p
  | 0, _, _, h => h.elim
  | _ + 1, g, _, ⟨hg, m, k, v, gs, h1, ⟨h2, h3, h4⟩, h5, h6, h7, h8⟩ =>
    ⟨hg, m, k, v, gs, (hb g hg.1 hg.2).trans h1, ⟨h2, h3, h4.same (hb m h2 h3)⟩, h5, own_keepP h6 (fun r hr => hb r (h6.lt r hr).1 (h5 r hr)), h7, fun j g' q e1 e2 => PtC.same hb (h8 j g' q e1 e2)⟩
theorem PtC.mono {l : List Tk} {W : World} {lo lo' hi hi' : Nat} (hl : lo' ≤ lo) (hh : hi ≤ hi') : ∀ {d g p : Nat}, PtC l W lo hi d g p → PtC l W lo' hi' d g p
  | 0, _, _, h => h.elim
  | _ + 1, _, _, ⟨hg, m, k, v, gs, h1, ⟨h2, h3, h4⟩, h5, h6, h7, h8⟩ =>
    ⟨⟨by omega, by omega⟩, m, k, v, gs, h1, ⟨by omega, by omega, h4⟩, fun r hr => by have := h5 r hr; omega, own_lower h6 hl, h7, fun j g' q e1 e2 => PtC.mono hl hh (h8 j g' q e1 e2)⟩
theorem PtC.up {l : List Tk} {W : World} {lo hi : Nat} : ∀ {d d' g p : Nat}, d ≤ d' → PtC l W lo hi d g p → PtC l W lo hi d' g p
  | 0, _, _, _, _, h => h.elim
  | _ + 1, 0, _, _, hd, _ => by omega
  | _ + 1, _ + 1, _, _, hd, ⟨hg, m, k, v, gs, h1, h2, h5, h6, h7, h8⟩ => ⟨hg, m, k, v, gs, h1, h2, h5, h6, h7, fun j g' q e1 e2 => PtC.up (Nat.le_of_succ_le_succ hd) (h8 j g' q e1 e2)⟩
/-- .. at whatever depth. -/
def PtA (l : List Tk) (W : World) (lo hi g p : Nat) : Prop := ∃ d, PtC l W lo hi d g p
theorem PtA.same {l : List Tk} {W W' : World} {lo hi g p : Nat} (h : PtA l W lo hi g p) (hb : ∀ k, lo ≤ k → k < hi → W'.heap[k]? = W.heap[k]?) : PtA l W' lo hi g p := ⟨h.choose, PtC.same hb h.choose_spec⟩
/-- One that is open, as cells: its part in block g. -/
def lvC (g : Nat) (x : Lv) : List Value := [.pointer (some ⟨g, 0, none⟩), .int .i64 x.left, .bool x.begun, .int .i64 (x.come : Int)]
def lvCs : List (Nat × Lv) → List Value
  | [] => []
  | y :: r => lvC y.1 y.2 ++ lvCs r
theorem lvCs_append (a b : List (Nat × Lv)) : lvCs (a ++ b) = lvCs a ++ lvCs b := by
  induction a with
  | nil => rfl
  | cons x a ih => rw [List.cons_append, lvCs, lvCs, ih, List.append_assoc]
theorem lvCs_length (a : List (Nat × Lv)) : (lvCs a).length = a.length * 4 := by
  induction a with
  | nil => rfl
  | cons x a ih => rw [lvCs, List.length_append, ih, List.length_cons]; show 4 + _ = _; omega
theorem lvCs_one (a : List (Nat × Lv)) : ∀ u ∈ lvCs a, u.oneCell' = true := by
  induction a with
  | nil => intro u hu; cases hu
  | cons x a ih =>
    intro u hu
    rcases List.mem_append.1 hu with h | h
    · simp only [lvC, List.mem_cons, List.not_mem_nil, or_false] at h
      rcases h with rfl | rfl | rfl | rfl <;> rfl
    · exact ih u h
/-- What is open, in block go: room for cap. -/
def Op4 (W : World) (go cap : Nat) (zs : List (Nat × Lv)) : Prop := ∃ cur : Array Value, W.heap[go]? = some (.cells cur 69) ∧ zs.length ≤ cap ∧ cap ≤ maxLen ∧ cur.size = cap * 4 ∧ cur.toList.take (zs.length * 4) = lvCs zs
theorem Op4.same {W W' : World} {go cap : Nat} {zs : List (Nat × Lv)} (h : Op4 W go cap zs) (hb : W'.heap[go]? = W.heap[go]?) : Op4 W' go cap zs := by
  obtain ⟨cur, h1, h2⟩ := h
  exact ⟨cur, hb.trans h1, h2⟩
theorem Op4.lt {W : World} {go cap : Nat} {zs : List (Nat × Lv)} (h : Op4 W go cap zs) : go < W.heap.size := by
  obtain ⟨cur, h1, _⟩ := h
  exact (Array.getElem?_eq_some_iff.1 h1).1
theorem lvCs_get : ∀ (zs : List (Nat × Lv)) (i : Nat) (y : Nat × Lv) (ys : List Value), zs[i]? = some y → ∀ j, j < 4 → (lvCs zs ++ ys)[i * 4 + j]? = (lvC y.1 y.2)[j]?
  | [], _, _, _, h, _, _ => by cases h
  | a :: r, 0, y, ys, h, j, hj => by
    cases h
    rw [lvCs, List.append_assoc, List.getElem?_append_left (by show 0 * 4 + j < 4; omega), Nat.zero_mul, Nat.zero_add]
  | a :: r, i + 1, y, ys, h, j, hj => by
    have ih := lvCs_get r i y ys h j hj
    have hl : (lvC a.1 a.2).length = 4 := rfl
    rw [lvCs, List.append_assoc, List.getElem?_append_right (by omega), hl, ← ih]
    congr 1
    omega
theorem Op4.at {W : World} {go cap : Nat} {zs : List (Nat × Lv)} (h : Op4 W go cap zs) {i : Nat} {y : Nat × Lv} (hy : zs[i]? = some y) (j : Nat) (hj : j < 4) : W.cell? ⟨go, i * 4 + j, none⟩ = (lvC y.1 y.2)[j]? := by
  obtain ⟨cur, h1, h2, h3, h4, h5⟩ := h
  have hi := (List.getElem?_eq_some_iff.1 hy).1
  have e := lvCs_get zs i y [] hy j hj
  rw [List.append_nil, ← h5, List.getElem?_take, if_pos (by omega), Array.getElem?_toList] at e
  rw [cell_at h1]
  exact e
/-- The machine in block a, k of the levels zs open. -/
structure SM (W : World) (a go cap k : Nat) (zs : List (Nat × Lv)) (ent : Int) : Prop where
  c : W.heap[a]? = some (.cells #[.slice (some ⟨go, 0, none⟩) k cap, .int .i64 ent] 64)
  o : Op4 W go cap zs
  kl : k ≤ zs.length
  k1 : 0 < k
  ne : a ≠ go
  zl : zs.length ≤ 1000000
theorem SM.same {W W' : World} {a go cap k : Nat} {zs : List (Nat × Lv)} {ent : Int} (h : SM W a go cap k zs ent) (h1 : W'.heap[a]? = W.heap[a]?) (h2 : W'.heap[go]? = W.heap[go]?) : SM W' a go cap k zs ent := ⟨h1.trans h.c, h.o.same h2, h.kl, h.k1, h.ne, h.zl⟩
theorem SM.lt {W : World} {a go cap k : Nat} {zs : List (Nat × Lv)} {ent : Int} (h : SM W a go cap k zs ent) : a < W.heap.size ∧ go < W.heap.size := ⟨(Array.getElem?_eq_some_iff.1 h.c).1, h.o.lt⟩
theorem SM.below {W W' : World} {a go cap k : Nat} {zs : List (Nat × Lv)} {ent : Int} (h : SM W a go cap k zs ent) (hb : Below W.heap.size W W') : SM W' a go cap k zs ent := h.same (hb.block _ h.lt.1) (hb.block _ h.lt.2)
theorem SM.c0 {W : World} {a go cap k : Nat} {zs : List (Nat × Lv)} {ent : Int} (h : SM W a go cap k zs ent) : W.cell? ⟨a, 0, none⟩ = some (.slice (some ⟨go, 0, none⟩) k cap) := cell_at h.c 0
theorem SM.c1 {W : World} {a go cap k : Nat} {zs : List (Nat × Lv)} {ent : Int} (h : SM W a go cap k zs ent) : W.cell? ⟨a, 1, none⟩ = some (.int .i64 ent) := cell_at h.c 1
/-- A level as a value. -/
abbrev lvV (g : Nat) (x : Lv) : Value := .agg #[.pointer (some ⟨g, 0, none⟩), .int .i64 x.left, .bool x.begun, .int .i64 (x.come : Int)]
abbrev lvO (g : Nat) (x : Lv) : Obj := .cells #[.pointer (some ⟨g, 0, none⟩), .int .i64 x.left, .bool x.begun, .int .i64 (x.come : Int)] 69
/-- A part's row, as one who asks meets it. -/
theorem PtA.row {l : List Tk} {W : World} {lo hi g p : Nat} (h : PtA l W lo hi g p) : ∃ (m k : Nat) (pr : Option Addr) (cr : Nat), W.heap[g]? = some (.cells #[.int .i64 (knd (opAt l p)), .string (nmAt l p), .int .i64 (p : Int), .int .u64 (gmax (bpAt l p)), .map (some m), .slice pr (rowZ l p).length cr] 73) ∧ SHas W m k (fun s => ∃ i ∈ fldZ l p, nmAt l i = s) ∧
    ∀ (j q : Nat), (rowZ l p)[j]? = some q → ∃ r g', pr = some ⟨r, 0, none⟩ ∧ W.cell? ⟨r, j, none⟩ = some (.pointer (some ⟨g', 0, none⟩)) ∧ PtA l W lo hi g' q := by
  obtain ⟨d, h⟩ := h
  cases d with
  | zero => exact h.elim
  | succ d =>
    obtain ⟨hg, m, k, v, gs, h1, ⟨h2, h3, h4⟩, h5, h6, h7, h8⟩ := h
    rcases h6.2 with ⟨hv, hn⟩ | ⟨r, cap, cur, hv, _, hr, hc, _, hs, ht⟩
    · refine ⟨m, k, none, 0, by rw [h1, hv, ← h7, hn], h4, fun j q hq => ?_⟩
      have := (List.getElem?_eq_some_iff.1 hq).1
      omega
    · refine ⟨m, k, some ⟨r, 0, none⟩, cap, by rw [h1, hv, ← h7], h4, fun j q hq => ?_⟩
      have hj := (List.getElem?_eq_some_iff.1 hq).1
      obtain ⟨g', hg'⟩ : ∃ g', gs[j]? = some g' := ⟨gs[j]'(by omega), List.getElem?_eq_getElem (by omega)⟩
      refine ⟨r, g', rfl, ?_, d, h8 j g' q hg' hq⟩
      have e : (gs.map fun g => Value.pointer (some ⟨g, 0, none⟩))[j]? = some (.pointer (some ⟨g', 0, none⟩)) := by rw [List.getElem?_map, hg']; rfl
      rw [← ht, List.getElem?_take] at e
      split at e
      · rw [cell_at hr, ← e, Array.getElem?_toList]
      · cases e
end Go.Proofs.YtepnmfgbflogkaaDoor
namespace Go.Proofs.YtepnmfgbflogkaaDoor
open Go.ChangeShapes Go.WideShapes Go.ChangeAt Go.RowKit Go.Shelf Go.Maps

theorem kbdr {E : List Nat} {a w : World} (h : Kb E a w) : Kb E a w.drew := ⟨h.os, h.tape, h.output, h.size, h.block⟩
theorem otop_any (B go n cap : Nat) (w : World) (hc : w.cell? ⟨B, 0, none⟩ = some (.slice (some ⟨go, 0, none⟩) (n + 1) cap)) (hn : n < 1000000000000) :
    Calls Tryd.prog 20 #[.pointer (some ⟨B, 0, none⟩)] w fun r w' => r = .returned (.pointer (some ⟨go, n * 4, none⟩)) ∧ Below w.heap.size w w' := by
  have e1 : ((n + 1 : Nat) : Int) - 1 = (n : Int) := by omega
  have e2 : (n : Int) < ((n + 1 : Nat) : Int) := by omega
  go_enter Tryd.func20, Tryd.ntmps20
  go_wp2_with fail
  go_quiet (fail)
  go_wp2_with fail
  go_ret
  exact ⟨rfl, tdr (Below.refl _ _)⟩
set_option maxRecDepth 20000 in
set_option maxHeartbeats 4000000 in
theorem opop_any (B go n cap : Nat) (ent : Int) (w : World) (hc : w.heap[B]? = some (.cells #[.slice (some ⟨go, 0, none⟩) (n + 1) cap, .int .i64 ent] 64)) (hn : n < 1000000000000) (hcap : n + 1 ≤ cap) :
    Calls Tryd.prog 34 #[.pointer (some ⟨B, 0, none⟩)] w fun r w' => r = .returned (.tuple #[]) ∧ w'.heap[B]? = some (.cells #[.slice (some ⟨go, 0, none⟩) n cap, .int .i64 ent] 64) ∧ Kb [B] w w' := by
  have b0 : w.cell? ⟨B, 0, none⟩ = some (.slice (some ⟨go, 0, none⟩) (n + 1) cap) := cell_at hc 0
  have fz : w.frozen? ⟨B, 0, none⟩ = false := by simp [World.frozen?, hc]
  have e1 : ((n + 1 : Nat) : Int) - 1 = (n : Int) := by omega
  have e3 : (n : Int) ≤ cap := by omega
  have hset : Hid (∀ W : World, W.heap[B]? = w.heap[B]? → (W.setCell ⟨B, 0, none⟩ (.slice (some ⟨go, 0, none⟩) n cap)).heap[B]? = some (.cells #[.slice (some ⟨go, 0, none⟩) n cap, .int .i64 ent] 64)) := ⟨fun W hW => by
    have e : (W.setCell ⟨B, 0, none⟩ (.slice (some ⟨go, 0, none⟩) n cap)).heap = W.heap.modify B (fun o => match o with
      | .cells cs t f => .cells (cs.setIfInBounds 0 (.slice (some ⟨go, 0, none⟩) n cap)) t f
      | o => o) := rfl
    rw [e, Array.getElem?_modify, if_pos rfl, hW, hc]
    rfl⟩
  have hk : Hid (Kb [B] w (w.setCell ⟨B, 0, none⟩ (.slice (some ⟨go, 0, none⟩) n cap)).drew) := ⟨kbdr ((Kb.of_below (Below.refl _ _)).set (List.mem_singleton.2 rfl) _)⟩
  clear hc
  go_enter Tryd.func34, Tryd.ntmps34
  go_region
  go_wp2_with fail
  exact bodyPost_end (v := .tuple #[]) (results_none (by rfl) _ _ _) rfl ⟨rfl, hset.out w rfl, hk.out⟩
/-- What isWhole and isOver ask of a part. -/
structure RwC (W : World) (g n : Nat) : Prop where
  c : ∃ pr cr, W.cell? ⟨g, 5, none⟩ = some (.slice pr n cr)
  lt : g < W.heap.size
theorem RwC.below {W W' : World} {g n : Nat} (h : RwC W g n) (hb : Below W.heap.size W W') : RwC W' g n := by
  obtain ⟨pr, cr, e⟩ := h.c
  exact ⟨⟨pr, cr, (hb.cell (p := ⟨g, 5, none⟩) h.lt).trans e⟩, Nat.lt_of_lt_of_le h.lt hb.size⟩
theorem PtA.rw {l : List Tk} {W : World} {lo hi g p : Nat} (h : PtA l W lo hi g p) : RwC W g (rowZ l p).length := by
  obtain ⟨m, k, pr, cr, h1, _⟩ := h.row
  exact ⟨⟨pr, cr, cell_at h1 5⟩, (Array.getElem?_eq_some_iff.1 h1).1⟩
theorem lvc_new (w : World) (g : Nat) (x : Lv) : (w.alloc (lvO g x)).cell? ⟨w.heap.size, 0, none⟩ = some (.pointer (some ⟨g, 0, none⟩)) ∧ (w.alloc (lvO g x)).cell? ⟨w.heap.size, 1, none⟩ = some (.int .i64 x.left) ∧ (w.alloc (lvO g x)).cell? ⟨w.heap.size, 2, none⟩ = some (.bool x.begun) ∧ (w.alloc (lvO g x)).cell? ⟨w.heap.size, 3, none⟩ = some (.int .i64 (x.come : Int)) :=
  ⟨cell_at (heap_al _ _) 0, cell_at (heap_al _ _) 1, cell_at (heap_al _ _) 2, cell_at (heap_al _ _) 3⟩
/-- The worlds behind wr in which nothing of it changed. -/
theorem clsO (wr : World) : ∃ p : World → Prop, p wr.drew ∧ (∀ W, p W → Below wr.heap.size wr W) ∧ Nonempty (CW p) ∧ (∀ (g o : Nat), g < wr.heap.size → ∀ θ : CW p, θ.w.cell? ⟨g, o, none⟩ = wr.cell? ⟨g, o, none⟩) ∧
    (∀ (f : FuncId) (ag : Array Value) (v : Value), (∀ W, Below wr.heap.size wr W → Calls Tryd.prog f ag W fun e w' => e = .returned v ∧ Below W.heap.size W w') → ∀ W, p W → Calls Tryd.prog f ag W fun e w' => e = .returned v ∧ p w') :=
  ⟨Below wr.heap.size wr, (Below.refl _ _).drew, fun _ h => h, ⟨⟨_, Below.refl _ _⟩⟩, fun g o hg θ => θ.h.cell (p := ⟨g, o, none⟩) hg, fun _ _ _ h W hW => (h W hW).mono fun _ _ hh => ⟨hh.1, hW.trans (hh.2.mono hW.size)⟩⟩
set_option maxRecDepth 20000 in
theorem isWhole_any (l : List Tk) (g : Nat) (x : Lv) (w : World) (hr : RwC w g (rowZ l x.p).length) :
    Calls Tryd.prog 29 #[lvV g x] w fun r w' => r = .returned (.bool (wholeB l x)) ∧ Below w.heap.size w w' := by
  obtain ⟨xp, xl, xb, xc⟩ := x
  have hb := bel1 w (lvO g ⟨xp, xl, xb, xc⟩)
  obtain ⟨pr, cr, e5⟩ := (hr.below hb).c
  obtain ⟨c0, c1, c2, c3⟩ := lvc_new w g ⟨xp, xl, xb, xc⟩
  have hB : Hid (Below w.heap.size w (w.alloc (lvO g ⟨xp, xl, xb, xc⟩))) := ⟨hb⟩
  unfold wholeB
  simp only at e5 c0 c1 c2 c3 ⊢
  generalize (rowZ l xp).length = N at e5
  generalize hW : w.alloc (lvO g ⟨xp, xl, xb, xc⟩) = W at e5 c0 c1 c2 c3 hB
  simp only [lvO] at hW
  clear hr hb
  cases xb with
  | false =>
    go_enter Tryd.func29, Tryd.ntmps29
    go_wp2_with fail
    go_quiet (fail)
    go_wp2_with fail
    go_ret
    exact ⟨rfl, tdr hB.out⟩
  | true =>
    by_cases hN : xc = N
    · have b1 : ((xc : Int) == (N : Int)) = true := by simp [hN]
      have HB : Hid (decide (xc = N) = true) := ⟨by simp [hN]⟩
      clear hN
      go_enter Tryd.func29, Tryd.ntmps29
      go_wp2_with fail
      go_quiet (fail)
      go_wp2_with fail
      go_ret
      exact ⟨rb (by rw [HB.out]; rfl), tdr hB.out⟩
    · have b1 : ((xc : Int) == (N : Int)) = false := by simp; omega
      have HB : Hid (decide (xc = N) = false) := ⟨by simp [hN]⟩
      clear hN
      go_enter Tryd.func29, Tryd.ntmps29
      go_wp2_with fail
      go_quiet (fail)
      go_wp2_with fail
      go_ret
      exact ⟨rb (by rw [HB.out]; rfl), tdr hB.out⟩
end Go.Proofs.YtepnmfgbflogkaaDoor

/- OsP, OwM, OsQ. -/
import Derived.Test.YtepnmfgbflogkaaDoorF33
import Derived.Test.YtepnmfgbflogkaaDoorF03
import Derived.Test.YtepnmfgbflogkaaDoorF06
import Derived.Test.YtepnmfgbflogkaaDoorF14
import Derived.Test.YtepnmfgbflogkaaDoorF05
import Derived.Deep.CutBlock
import Derived.Deep.CutRange
import Derived.Deep.RegionHeld3
namespace Go.Proofs.YtepnmfgbflogkaaDoor
open Go.ChangeShapes Go.WideShapes Go.ChangeAt Go.RowKit Go.Shelf Go.Maps

/-- Nothing but blocks of U has changed. -/
structure Frm (U : Nat → Prop) (w W : World) : Prop where
  os : W.os = w.os
  tape : W.tape = w.tape
  output : W.output = w.output
  size : w.heap.size ≤ W.heap.size
  block : ∀ k, k < w.heap.size → ¬ U k → W.heap[k]? = w.heap[k]?
theorem Frm.of_below {U : Nat → Prop} {w W : World} (h : Below w.heap.size w W) : Frm U w W := ⟨h.os, h.tape, h.output, h.size, fun k hk _ => h.block k hk⟩
theorem Frm.of_kb {U : Nat → Prop} {E : List Nat} {w W : World} (h : Kb E w W) (hE : ∀ k ∈ E, U k) : Frm U w W := ⟨h.os, h.tape, h.output, h.size, fun k hk hn => h.block k hk fun hm => hn (hE k hm)⟩
theorem Frm.mono {U U' : Nat → Prop} {w W : World} (h : Frm U w W) (hU : ∀ k, U k → U' k) : Frm U' w W := ⟨h.os, h.tape, h.output, h.size, fun k hk hn => h.block k hk fun hm => hn (hU k hm)⟩
theorem Frm.below {U : Nat → Prop} {w W : World} {b : Nat} (h : Frm U w W) (hU : ∀ k, U k → b ≤ k) (hb : b ≤ w.heap.size) : Below b w W := ⟨h.os, h.tape, h.output, h.size, fun k hk => h.block k (by omega) fun hm => by have := hU k hm; omega⟩
/-- The blocks of U, and those that came since. -/
def grw (U : Nat → Prop) (w W : World) : Nat → Prop := fun k => U k ∨ (w.heap.size ≤ k ∧ k < W.heap.size)
/-- The machine in block a, in state s; its blocks are in U. -/
structure Mc (f : Fm) (w : World) (a : Nat) (s : Ms) (U : Nat → Prop) : Prop where
  m : ∃ go cap lo hi zs, MaF f.toks w a go cap lo hi zs s.ent ∧ tops zs zs.length = s.op ∧ U go ∧ ∀ k, lo ≤ k → k < hi → U k
  i : InF f.toks s
  ua : U a
  lt : ∀ k, U k → k < w.heap.size
theorem MaF.same {l : List Tk} {w w' : World} {a go cap lo hi : Nat} {zs : List (Nat × Lv)} {ent : Int} (h : MaF l w a go cap lo hi zs ent) (h1 : w'.heap[a]? = w.heap[a]?) (h2 : w'.heap[go]? = w.heap[go]?) (h3 : ∀ k, lo ≤ k → k < hi → w'.heap[k]? = w.heap[k]?) : MaF l w' a go cap lo hi zs ent :=
  ⟨h.s.same h1 h2, fun y hy => (h.p y hy).same h3, h.al, h.gl, h.ok, h.rl⟩
theorem Mc.same {f : Fm} {w w' : World} {a : Nat} {s : Ms} {U : Nat → Prop} (h : Mc f w a s U) (hs : w.heap.size ≤ w'.heap.size) (hb : ∀ k, U k → w'.heap[k]? = w.heap[k]?) : Mc f w' a s U := by
  obtain ⟨go, cap, lo, hi, zs, h1, h2, h3, h4⟩ := h.m
  exact ⟨⟨go, cap, lo, hi, zs, h1.same (hb _ h.ua) (hb _ h3) fun k e1 e2 => hb k (h4 k e1 e2), h2, h3, h4⟩, h.i, h.ua, fun k hk => Nat.lt_of_lt_of_le (h.lt k hk) hs⟩
theorem Mc.frm {f : Fm} {w w' : World} {a : Nat} {s : Ms} {U V : Nat → Prop} (h : Mc f w a s U) (hb : Frm V w w') (hd : ∀ k, U k → ¬ V k) : Mc f w' a s U := h.same hb.size fun k hk => hb.block k (h.lt k hk) (hd k hk)
theorem Mc.below {f : Fm} {w w' : World} {a : Nat} {s : Ms} {U : Nat → Prop} (h : Mc f w a s U) (hb : Below w.heap.size w w') : Mc f w' a s U := h.same hb.size fun k hk => hb.block k (h.lt k hk)
theorem Mc.ok {f : Fm} {w : World} {a : Nat} {s : Ms} {U : Nat → Prop} (h : Mc f w a s U) : MsOk f.toks s := by
  obtain ⟨go, cap, lo, hi, zs, h1, h2, -⟩ := h.m
  have := h1.ok
  rw [h2] at this
  exact this
theorem kidF_le (l : List Tk) (n : Nat) : ∀ m k, (kidF l n m k).length ≤ m
  | 0, _ => Nat.le_refl _
  | m + 1, k => by
    rw [kidF]
    split
    · rw [List.length_cons]
      exact Nat.succ_le_succ (kidF_le l n m _)
    · exact Nat.zero_le _
theorem rowZ_le (l : List Tk) (p : Nat) : (rowZ l p).length ≤ l.length := by
  refine Nat.le_trans (List.length_filter_le _ _) ?_
  unfold kidsZ
  split
  · exact kidF_le _ _ _ _
  · exact Nat.zero_le _
theorem New_mc (f : Fm) (pp : Option Addr) (cp : Nat) (w : World) (hc : ChkC w f pp cp) (tl : TkL w pp w.heap.size f.toks) (hz : chkZ f = none) :
    Calls Tryd.prog 6 #[fmV f pp cp] w fun r w' => ∃ a, r = .returned (.tuple #[.pointer (some ⟨a, 0, none⟩), .int .i64 0]) ∧ Mc f w' a newZ (fun k => w.heap.size ≤ k ∧ k < w'.heap.size) ∧ Below w.heap.size w w' := by
  refine (New_ok f pp cp w hc tl hz).mono ?_
  rintro _ w' ⟨a, rfl, ⟨go, cap, lo, hi, zs, h1, h2, h3, h4⟩, h5, h6⟩
  have g1 := h1.s.lt
  have g2 := h1.gl
  have g3 : lo ≤ go := by
    rcases Nat.lt_or_ge go lo with h | h
    · obtain ⟨y, hy⟩ : ∃ y, zs[0]? = some y := ⟨zs[0]'(by omega), List.getElem?_eq_getElem (by omega)⟩
      obtain ⟨d, hd⟩ := h1.p y (List.mem_of_getElem? hy)
      cases d with
      | zero => exact hd.elim
      | succ d => have := hd.1; omega
    · exact h
  exact ⟨a, rfl, ⟨⟨go, cap, lo, hi, zs, h1, h2, ⟨by omega, g1.2⟩, fun k e1 e2 => ⟨by omega, by omega⟩⟩, (new_ok hz).2, ⟨h5, g1.1⟩, fun k hk => hk.2⟩, h6⟩
theorem tops_length (zs : List (Nat × Lv)) : (tops zs zs.length).length = zs.length := by
  unfold tops
  rw [List.take_length, List.length_map, List.length_reverse]
theorem Step_mc (f : Fm) (hz : chkZ f = none) (hl : f.toks.length ≤ 733007751850) (a : Nat) (s : Ms) (U : Nat → Prop) (c : Cl) (w : World) (h : Mc f w a s U) (hco : i64ok c.cnt) (hnm : c.nm.size ≤ maxLen) :
    Calls Tryd.prog 11 #[.pointer (some ⟨a, 0, none⟩), caV c] w fun r w' => r = .returned (.int .i64 (stepZ f.toks s c.k c.cnt c.nm).1) ∧ Mc f w' a (stepZ f.toks s c.k c.cnt c.nm).2 (grw U w w') ∧ Frm U w w' := by
  obtain ⟨go, cap, lo, hi, zs, h1, h2, h3, h4⟩ := h.m
  have ho := h.ok
  have hlen := ho.len
  have he := ho.e1
  have ht := tops_length zs
  rw [h2] at ht
  refine (step_any f.toks a go cap lo hi zs s.ent c w h1 hco hnm (by omega)).mono ?_
  have hs : (⟨tops zs zs.length, s.ent⟩ : Ms) = s := by rw [h2]
  rw [hs]
  obtain ⟨hn, hin⟩ := step_ok hz ho h.i c.k c.cnt c.nm
  generalize stepZ f.toks s c.k c.cnt c.nm = R at hn hin
  rintro r w' ⟨rfl, go', cap', zs', q1, q2, q3, q4, q5⟩
  have g1 := h1.s.lt
  have g2 := h1.gl
  have g3 := q1.lt
  refine ⟨rfl, ⟨⟨go', cap', lo, hi, zs', ⟨q1, q2, h1.al, ?_, by rw [q3]; exact hn, fun y _ => Nat.le_trans (rowZ_le _ _) hl⟩, q3, ?_, fun k e1 e2 => .inl (h4 k e1 e2)⟩, hin, .inl h.ua, fun k hk => ?_⟩, Frm.of_kb q5 fun k hk => ?_⟩
  · rcases q4 with rfl | q4
    · exact g2
    · omega
  · rcases q4 with rfl | q4
    · exact .inl h3
    · exact .inr ⟨q4, g3.2⟩
  · rcases hk with hk | hk
    · exact Nat.lt_of_lt_of_le (h.lt k hk) q5.size
    · exact hk.2
  · simp only [List.mem_cons, List.not_mem_nil, or_false] at hk
    rcases hk with rfl | rfl
    · exact h.ua
    · exact h3
theorem Done_mc {f : Fm} {a : Nat} {s : Ms} {U : Nat → Prop} {w : World} (h : Mc f w a s U) : Calls Tryd.prog 7 #[.pointer (some ⟨a, 0, none⟩)] w fun r w' => r = .returned (.bool (doneB f.toks s)) ∧ Below w.heap.size w w' := by
  obtain ⟨go, cap, lo, hi, zs, h1, h2, -⟩ := h.m
  have := Done_any _ _ _ _ _ _ _ _ _ h1
  rw [h2] at this
  exact this
theorem Inside_mc {f : Fm} {a : Nat} {s : Ms} {U : Nat → Prop} {w : World} (h : Mc f w a s U) : Calls Tryd.prog 8 #[.pointer (some ⟨a, 0, none⟩)] w fun r w' => r = .returned (.int .i64 (insZ s : Int)) ∧ Below w.heap.size w w' := by
  obtain ⟨go, cap, lo, hi, zs, h1, h2, -⟩ := h.m
  have := Inside_any _ _ _ _ _ _ _ _ _ h1
  rw [h2] at this
  exact this
/-- What Left answers, as a list. -/
def lfZ (s : Ms) : List Nat := (s.op.reverse.drop 1).map fun x => x.left.toNat
theorem lfZ_eq {zs : List (Nat × Lv)} {s : Ms} (h : tops zs zs.length = s.op) : lfZ s = lfN zs := by
  unfold lfZ lfN
  rw [← h]
  unfold tops
  rw [List.take_length]
  simp only [← List.map_reverse, List.reverse_reverse, List.map_drop, List.map_map]
  rfl
theorem lfZ_le {l : List Tk} {s : Ms} (h : MsOk l s) : (lfZ s).length ≤ 65536 := by
  have h1 := h.len
  have h2 := h.e1
  unfold lfZ
  rw [List.length_map, List.length_drop, List.length_reverse]
  omega
theorem Left_mc {f : Fm} {a : Nat} {s : Ms} {U : Nat → Prop} {w : World} (h : Mc f w a s U) : Calls Tryd.prog 9 #[.pointer (some ⟨a, 0, none⟩)] w fun r w' => ∃ v, r = .returned v ∧ NRow w' w.heap.size v (lfZ s) ∧ Below w.heap.size w w' := by
  obtain ⟨go, cap, lo, hi, zs, h1, h2, -⟩ := h.m
  rw [lfZ_eq h2]
  exact Left_any _ _ _ _ _ _ _ _ _ h1
theorem NRow.sl {W : World} {base : Nat} {v : Value} {ns : List Nat} (h : NRow W base v ns) : ∃ pp cp, v = .slice pp ns.length cp ∧ NSl W pp ns := by
  obtain ⟨pp, cp, e, h2⟩ := h.shape
  exact ⟨pp, cp, e, h2⟩
end Go.Proofs.YtepnmfgbflogkaaDoor
namespace Go.Proofs.YtepnmfgbflogkaaDoor

def zT : Tk := ⟨0, ⟨#[]⟩, 0, 0, 0, 0, 0, 0, 0, 0, 0, 0, [], 0, 0, 0, ⟨0, 0⟩, ⟨0, 0⟩, 0⟩
def oU : Tk := { zT with op := 14, name := ⟨#[117, 105, 110, 116, 56]⟩, siz := 1, prim := 5, len := 1, nul := 255, hi := 254 }
def oT0 : Tk := { zT with op := 0, name := ⟨#[77]⟩, id := 1, blk := 1, full := 1, pair := 13 }
def oT1 : Tk := { zT with op := 2, name := ⟨#[97]⟩, id := 1, siz := 1, pair := 3 }
def oT3 : Tk := { zT with op := 3, name := ⟨#[97]⟩, pair := 1 }
def oT4 : Tk := { zT with op := 4, name := ⟨#[103]⟩, id := 2, siz := 3, blk := 1, full := 1, a := ⟨6, 0⟩, b := ⟨5, 2⟩, pair := 10 }
def oT5 : Tk := { zT with op := 2, name := ⟨#[120]⟩, id := 3, siz := 1, pair := 7 }
def oT7 : Tk := { zT with op := 3, name := ⟨#[120]⟩, pair := 5 }
def oT8 : Tk := { zT with op := 6, name := ⟨#[101]⟩, id := 4, siz := 1, a := ⟨5, 0⟩, pair := 9 }
def oT9 : Tk := { zT with op := 7, name := ⟨#[101]⟩, pair := 8 }
def oT10 : Tk := { zT with op := 5, name := ⟨#[103]⟩, pair := 4 }
def oT11 : Tk := { zT with op := 6, name := ⟨#[100]⟩, id := 5, siz := 1, a := ⟨5, 0⟩, pair := 12 }
def oT12 : Tk := { zT with op := 7, name := ⟨#[100]⟩, pair := 11 }
def oT13 : Tk := { zT with op := 1, name := ⟨#[77]⟩, pair := 0 }
def ownL : List Tk := [oT0, oT1, { oU with pair := 2 }, oT3, oT4, oT5, { oU with pair := 6 }, oT7, oT8, oT9, oT10, oT11, oT12, oT13]
def ownF : Fm := ⟨0, 0, 0, 8, ⟨6, 0⟩, ⟨6, 2⟩, ⟨6, 4⟩, ⟨6, 6⟩, ownL⟩
theorem own_chk : chkZ ownF = none := by decide +kernel
/-- The calls of a message of it. -/
structure Oc where
  k : Int
  nm : ByteArray
  cnt : Int
def ownC : List Oc := [⟨0, ⟨#[97]⟩, 0⟩, ⟨1, ⟨#[103]⟩, 2⟩, ⟨2, ⟨#[]⟩, 0⟩, ⟨0, ⟨#[120]⟩, 0⟩, ⟨3, ⟨#[101]⟩, 0⟩, ⟨2, ⟨#[]⟩, 0⟩, ⟨3, ⟨#[101]⟩, 0⟩]
def sAt : Nat → Ms
  | 0 => newZ
  | j + 1 => match ownC[j]? with
    | some c => (stepZ ownL (sAt j) c.k c.cnt c.nm).2
    | none => sAt j
theorem own_r0 : (stepZ ownL newZ 2 0 ⟨#[]⟩).1 = 140 := by decide +kernel
theorem own_ok : ∀ j c, ownC[j]? = some c → (stepZ ownL (sAt j) c.k c.cnt c.nm).1 = 0 := by
  have h : ∀ j : Fin 7, (match ownC[j.1]? with | some c => decide ((stepZ ownL (sAt j.1) c.k c.cnt c.nm).1 = 0) | none => true) = true := by decide +kernel
  intro j c hj
  have hlt : j < 7 := (List.getElem?_eq_some_iff.1 hj).1
  have := h ⟨j, hlt⟩
  simp only [hj] at this
  exact of_decide_eq_true this
theorem sAt_succ {j : Nat} {c : Oc} (h : ownC[j]? = some c) : sAt (j + 1) = (stepZ ownL (sAt j) c.k c.cnt c.nm).2 := by
  rw [sAt, h]
def sEnd : Ms := (stepZ ownL (sAt 7) 3 0 ⟨#[100]⟩).2
theorem own_d0 : doneB ownL newZ = false := by decide +kernel
theorem own_d7 : doneB ownL (sAt 7) = false := by decide +kernel
theorem own_i7 : insZ (sAt 7) = 4 := by decide +kernel
theorem own_l7 : ((sAt 7).op.reverse.drop 1).map (fun x => x.left.toNat) = [0] := by decide +kernel
theorem own_r7 : (stepZ ownL (sAt 7) 3 0 ⟨#[100]⟩).1 = 0 := by decide +kernel
theorem own_d8 : doneB ownL sEnd = true := by decide +kernel
theorem own_i8 : insZ sEnd = 0 := by decide +kernel
theorem own_l8 : (sEnd.op.reverse.drop 1).map (fun x => x.left.toNat) = [] := by decide +kernel
end Go.Proofs.YtepnmfgbflogkaaDoor
namespace Go.Proofs.YtepnmfgbflogkaaDoor
open Go.ChangeShapes Go.WideShapes Go.ChangeAt Go.RowKit Go.Shelf Go.Maps

theorem own1_any (p n : Int) (w : World) : Calls Tryd.prog 22 #[.int .i64 p, .int .i64 n] w fun r w' => r = .returned (.agg #[.int .i64 p, .int .i64 n]) ∧ Below w.heap.size w w' := by
  have hh := heap_al w (.cells #[.int .i64 p, .int .i64 n] 25)
  have h0 : (w.alloc (.cells #[.int .i64 p, .int .i64 n] 25)).cell? ⟨w.heap.size, 0, none⟩ = some (.int .i64 p) := cell_at hh 0
  have h1 : (w.alloc (.cells #[.int .i64 p, .int .i64 n] 25)).cell? ⟨w.heap.size, 1, none⟩ = some (.int .i64 n) := cell_at hh 1
  have hB : Hid (Below w.heap.size w (w.alloc (.cells #[.int .i64 p, .int .i64 n] 25))) := ⟨bel1 _ _⟩
  clear hh
  go_enter Tryd.func22, Tryd.ntmps22
  go_wp2_with fail
  refine bodyPost_ret (v := .agg #[.int .i64 p, .int .i64 n]) ?_ rfl ⟨rfl, hB.out⟩
  simp [results, Tryd.results22, go_sem, h0, h1]

theorem ent_own1 : ∀ ag w, (callFunc 22 ag).run Tryd.prog w = .ok (.enter 22 ag) w := enters_of Tryd.func22 (by kernel_rfl) rfl
abbrev zFm : Obj := .cells #[.int .i64 0, .int .i64 0, .int .i64 0, .int .i64 0, .int .i64 0, .int .i64 0, .int .i64 0, .int .i64 0, .int .i64 0, .int .i64 0, .int .i64 0, .int .i64 0, .slice none 0 0] 30
abbrev oHd : Obj := .cells #[.int .i64 8, .int .i64 6, .int .i64 0, .int .i64 6, .int .i64 2, .int .i64 6, .int .i64 4, .int .i64 6, .int .i64 6] 27
section
variable {P : Program} {ops : Array Oper} {C : World → Prop} {Q : Exit → Act → World → Prop} {d : Option Tmp} {ty : TypeId} {ps : String} {af : Array Edge} {gd : Option (Nat × Bool)} {r : List Oper} {a : Act} {w : World}
/-- A call of a function's value. -/
theorem lx_callw {f : FuncId} {v0 x1 x2 : Operand} {y1 y2 : Value} {tx : Array TypeId} {v : Value} {R : World → Prop} (hen : ∀ ag w, (callFunc f ag).run P w = .ok (.enter f ag) w) (hc : Calls P f #[y1, y2] w fun e w' => e = .returned v ∧ R w') (h0 : a.eval v0 = .func (.func f) #[] #[]) (h1 : a.eval x1 = y1) (h2 : a.eval x2 = y2) (hw : Region.wanted ⟨d, .call { callee := .value v0, args := #[x1, x2], argTypes := tx }, ty, ps, af, gd⟩ (yielded ops a.tmps) = true)
    (h : ∀ w', R w' → C w' ∧ Lx P ops C Q r (a.put d v) w') : Lx P ops C Q (⟨d, .call { callee := .value v0, args := #[x1, x2], argTypes := tx }, ty, ps, af, gd⟩ :: r) a w :=
  lx_act hw rfl fun K hK => by
    unfold Oper.wp execOp
    simp only [resolve, invoke, Sem.run_bind, h0]
    simp [Deferred.ofValue, hen, Oper.upon_enter, h1, h2]
    refine hc.mono ?_
    rintro e w' ⟨rfl, hp⟩
    exact hK _ _ (h w' hp).1 (h w' hp).2
theorem lx_ldO {t : TypeId} {x : Operand} {p v : Value} (hl : ∀ W, C W → (Instr.loadAt t p).run P W = .ok v W) (hx : a.eval x = p) (hw : Region.wanted ⟨d, .load t x, ty, ps, af, gd⟩ (yielded ops a.tmps) = true) (h : Lx P ops C Q r (a.put d v) w) : Lx P ops C Q (⟨d, .load t x, ty, ps, af, gd⟩ :: r) a w :=
  lx_read hw rfl fun K hK => ⟨v, fun W hW => by
    unfold Oper.quietAt execOp
    simp only [hx, hl W hW, Sem.run_bind, Result.andThen_ok, Sem.run_pure]
    exact ⟨rfl, rfl⟩, hK _ h⟩
theorem lx_bs {t : TypeId} {n : Nat} {xs : Array (Nat × Operand)} {ys : Array (Nat × Value)} {v : Value} {w' : World} (hr : (Instr.buildSlice t n ys).run P w = .ok v w') (hC : C w') (hx : (xs.map fun (i, x) => (i, a.eval x)) = ys) (hw : Region.wanted ⟨d, .buildSlice t n xs, ty, ps, af, gd⟩ (yielded ops a.tmps) = true) (h : Lx P ops C Q r (a.put d v) w') : Lx P ops C Q (⟨d, .buildSlice t n xs, ty, ps, af, gd⟩ :: r) a w :=
  lx_act hw rfl fun K hK => by
    unfold Oper.wp execOp
    simp only [hx, hr, Sem.run_bind, Result.andThen_ok]
    exact hK _ _ hC h
end
def own0 : List Tk := [oT0, oT1, oU, oT3, oT4, oT5, oU, oT7, oT8, oT9, oT10, oT11, oT12, oT13]
def tkCs : List Tk → List Value
  | [] => []
  | t :: r => tkC t none 0 ++ tkCs r
theorem own_bs (W : World) : (Instr.buildSlice 28 14 #[(0, tkV oT0 none 0), (1, tkV oT1 none 0), (2, tkV oU none 0), (3, tkV oT3 none 0), (4, tkV oT4 none 0), (5, tkV oT5 none 0), (6, tkV oU none 0), (7, tkV oT7 none 0), (8, tkV oT8 none 0), (9, tkV oT9 none 0), (10, tkV oT10 none 0), (11, tkV oT11 none 0), (12, tkV oT12 none 0), (13, tkV oT13 none 0)]).run Tryd.prog W = .ok (.slice (some ⟨W.heap.size, 0, none⟩) 14 14) (W.alloc (.cells (tkCs own0).toArray 42)) := by kernel_rfl
theorem tkCs_get : ∀ (l : List Tk) (i : Nat) (t : Tk), l[i]? = some t → ∀ j, j < 21 → (tkCs l)[i * 21 + j]? = (tkC t none 0)[j]?
  | [], _, _, h, _, _ => by cases h
  | a :: r, 0, t, h, j, hj => by
    cases h
    rw [tkCs, Nat.zero_mul, Nat.zero_add, List.getElem?_append_left (by show j < 21; omega)]
  | a :: r, i + 1, t, h, j, hj => by
    have ih := tkCs_get r i t h j hj
    have hl : (tkC a none 0).length = 21 := rfl
    rw [tkCs, List.getElem?_append_right (by omega), hl, ← ih]
    congr 1
    omega
theorem tkL_lit {w : World} {g H : Nat} {l : List Tk} (hg : w.heap[g]? = some (.cells (tkCs l).toArray 42)) (hH : g < H) (hl : l.length * 192 ≤ 140737488355328) (hc : ∀ t ∈ l, t.cst = [] ∧ TkOk t) : TkL w (some ⟨g, 0, none⟩) H l :=
  ⟨⟨fun i t ht => by
    have h0 := (hc t (List.mem_of_getElem? ht)).1
    refine ⟨g, 0, none, 0, rfl, hH, tkC_of fun j u hu => ?_, by rw [h0]; exact URow.nil _ _ _, by rw [h0]; exact Nat.le_refl _⟩
    rw [Nat.zero_add, cell_at hg, List.getElem?_toArray, tkCs_get l i t ht j (List.getElem?_eq_some_iff.1 hu).1]
    exact hu⟩, hl, fun t ht => (hc t ht).2⟩
def iB (x : Int) : Bool := decide (-9223372036854775808 ≤ x ∧ x ≤ 9223372036854775807)
def uB (x : Int) : Bool := decide (0 ≤ x ∧ x ≤ 18446744073709551615)
def tokB (t : Tk) : Bool := t.cst.isEmpty && iB t.op && decide (t.name.size ≤ 281474976710656) && iB t.id && iB t.off && iB t.siz && iB t.since && iB t.prim && iB t.len && iB t.pres && uB t.nul && uB t.lo && uB t.hi && uB t.val && iB t.blk && iB t.full && iB t.a.p && iB t.a.o && iB t.b.p && iB t.b.o && iB t.pair
theorem tokB_ok {t : Tk} (h : tokB t = true) : t.cst = [] ∧ TkOk t := by
  unfold tokB at h
  simp only [Bool.and_eq_true, List.isEmpty_iff, iB, uB, decide_eq_true_eq] at h
  obtain ⟨⟨⟨⟨⟨⟨⟨⟨⟨⟨⟨⟨⟨⟨⟨⟨⟨⟨⟨⟨h0, h1⟩, h2⟩, h3⟩, h4⟩, h5⟩, h6⟩, h7⟩, h8⟩, h9⟩, h10⟩, h11⟩, h12⟩, h13⟩, h14⟩, h15⟩, h16⟩, h17⟩, h18⟩, h19⟩, h20⟩ := h
  exact ⟨h0, ⟨h1, h2, h3, h4, h5, h6, h7, h8, h9, h10, h11, h12, by rw [h0]; decide, by rw [h0]; simp, h13, h14, h15, h16, h17, h18, h19, h20⟩⟩
theorem own_toks : ∀ t ∈ ownL, t.cst = [] ∧ TkOk t := by
  have h : ownL.all tokB = true := by decide +kernel
  exact fun t ht => tokB_ok (List.all_eq_true.1 h t ht)
theorem own_sets : ((tkCs own0).toArray.setIfInBounds 62 (.int .i64 2)).setIfInBounds 146 (.int .i64 6) = (tkCs ownL).toArray := by kernel_rfl
theorem cellSet {w : World} {X : Nat} {cs : Array Value} {ty : TypeId} (h : w.heap[X]? = some (.cells cs ty)) (k : Nat) (u : Value) : (w.setCell ⟨X, k, none⟩ u).heap[X]? = some (.cells (cs.setIfInBounds k u) ty) := by
  show (w.heap.modify X _)[X]? = _
  rw [Array.getElem?_modify, if_pos rfl, h]
  rfl
theorem own_62 : (tkCs own0).toArray[62]? = some (.int .i64 0) := by kernel_rfl
theorem own_146 : ((tkCs own0).toArray.setIfInBounds 62 (.int .i64 2))[146]? = some (.int .i64 0) := by kernel_rfl
theorem infoHdO : (Tryd.prog.info? 27).map (·.size) = some 9 := by kernel_rfl
theorem infoFmO : (Tryd.prog.info? 30).map (·.size) = some 13 := by kernel_rfl
theorem fmC_one (f : Fm) (pp : Option Addr) (cp : Nat) : (#[.int .i64 f.ord, .int .i64 f.sch, .int .i64 f.ver, .int .i64 f.hsz, .int .i64 f.hb.p, .int .i64 f.hb.o, .int .i64 f.ht.p, .int .i64 f.ht.o, .int .i64 f.hs.p, .int .i64 f.hs.o, .int .i64 f.hv.p, .int .i64 f.hv.o, .slice pp f.toks.length cp] : Array Value).all (·.oneCell') = true := by kernel_rfl
theorem fm_st {w : World} {b : Nat} {old : Array Value} (hb : w.heap[b]? = some (.cells old 30)) (ho : old.size = 13) (f : Fm) (pp : Option Addr) (cp : Nat) : (Instr.storeAt 30 (.pointer (some ⟨b, 0, none⟩)) (fmV f pp cp)).run Tryd.prog w = .ok () (w.setRow b #[.int .i64 f.ord, .int .i64 f.sch, .int .i64 f.ver, .int .i64 f.hsz, .int .i64 f.hb.p, .int .i64 f.hb.o, .int .i64 f.ht.p, .int .i64 f.ht.o, .int .i64 f.hs.p, .int .i64 f.hs.o, .int .i64 f.hv.p, .int .i64 f.hv.o, .slice pp f.toks.length cp]) := by
  simp only [Instr.storeAt, Instr.sureAddr, Sem.run_bind, Sem.run_pure, Result.andThen]
  exact run_storeVar_row _ _ _ _ _ _ hb infoFmO (by rw [ho]; rfl) (fmC_one f pp cp)
theorem hd_ld {w : World} {b : Nat} (hb : w.heap[b]? = some oHd) : (Instr.loadAt 27 (.pointer (some ⟨b, 0, none⟩))).run Tryd.prog w = .ok (.agg #[.int .i64 8, .int .i64 6, .int .i64 0, .int .i64 6, .int .i64 2, .int .i64 6, .int .i64 4, .int .i64 6, .int .i64 6]) w := by
  simp only [Instr.loadAt, Instr.sureAddr, Sem.run_bind, Sem.run_pure, Result.andThen]
  exact run_loadVar_row _ _ _ _ _ _ _ hb Tryd.underlying27 rfl infoHdO
/-- The worlds behind wr in which nothing of it changed. -/
theorem clsO1 (wr : World) (g : Nat) (t : Tk) (hg : wr.heap[g]? = some (tkO t none 0)) : ∃ p : World → Prop, p wr.drew ∧ (∀ W, p W → Below wr.heap.size wr W) ∧ (∀ W, Below wr.heap.size wr W → p W) ∧ Nonempty (CW p) ∧
    (∀ W, (∃ θ : CW p, W = θ.w) → (Instr.loadAt 42 (.pointer (some ⟨g, 0, none⟩))).run Tryd.prog W = .ok (tkV t none 0) W) :=
  ⟨Below wr.heap.size wr, drw (Below.refl _ _), fun _ h => h, fun _ h => h, ⟨⟨_, Below.refl _ _⟩⟩, by
    rintro _ ⟨θ, rfl⟩
    exact (tk_of ((θ.h.block g (Array.getElem?_eq_some_iff.1 hg).1).trans hg)).load⟩
end Go.Proofs.YtepnmfgbflogkaaDoor

/- IDc, JMem, JSm, JSn, JLd, JSo, JEq. -/
import Derived.Test.YtjjhfiddebmgcaaGreatDoorG05
import Derived.Deep.MidRow
import Derived.Deep.WholeRow
import Derived.OpenShut
import Derived.Deep.RegionWith
import Derived.Deep.QuietTactic
import Derived.Test.YtjjhfiddebmgcaaGreatDoorG01
namespace Go.Proofs.YtjjhfiddebmgcaaGreatDoor
open Go.ChangeShapes Go.WideShapes Go.ChangeAt Go.RowKit Go.Shelf Go.Maps

abbrev tkO (t : Tk) (pc : Option Addr) (cc : Nat) : Obj := .cells (tkC t pc cc).toArray 43
theorem bdN {B : Nat} {a w : World} (h : Below B a w) (n : Nat) : Below B a (w.drewN n) := ⟨h.os, h.tape, h.output, h.size, h.block⟩
theorem two_b (w : World) (A B : Obj) : Below w.heap.size w ((w.alloc A).alloc B) := (bel1 w A).alloc (by simp) B
theorem two_1 (w : World) (A B : Obj) : ((w.alloc A).alloc B).heap[w.heap.size]? = some A := by
  show ((w.heap.push A).push B)[w.heap.size]? = _
  rw [Array.getElem?_push, if_neg (by simp), Array.getElem?_push, if_pos rfl]
theorem two_2 (w : World) (A B : Obj) : ((w.alloc A).alloc B).heap[w.heap.size + 1]? = some B := by
  show ((w.heap.push A).push B)[w.heap.size + 1]? = _
  rw [Array.getElem?_push, if_pos (by simp)]
theorem tk_of {w : World} {g : Nat} {t : Tk} {pc : Option Addr} {cc : Nat} (h : w.heap[g]? = some (tkO t pc cc)) : TkC w g 0 t pc cc :=
  tkC_of fun j u hu => by
    rw [Nat.zero_add, cell_at h j, List.getElem?_toArray]
    exact hu
/-- A load of something great, by what it answers. -/
theorem wpList_ld {P : Program} {ops : Array Oper} {Q : Exit → Act → World → Prop} {a : Act} {w : World} {rest : List Oper} {o : Oper} (ty : TypeId) (x : Operand) (ho : o.op = .load ty x)
    (hw : Region.wanted o (yielded ops a.tmps) = true) (p v : Value) (hx : a.eval x = p) (hr : (Instr.loadAt ty p).run P w = .ok v w) (h : wpList P ops Q rest (a.put o.dst v) w) : wpList P ops Q (o :: rest) a w := by
  refine wpList_step fun K hK => ?_
  rw [if_pos hw]
  unfold Oper.wp execOp
  simp only [ho, hx, hr, Sem.run_bind, Result.andThen_ok]
  exact hK _ _ h
theorem tk_range {w : World} {g o : Nat} {t : Tk} {pc : Option Addr} {cc : Nat} (h : TkC w g o t pc cc) : w.rangeAt g o (tkC t pc cc) := by
  intro j v hv
  have hj : j < 21 := (List.getElem?_eq_some_iff.1 hv).1
  have h21 : j = 0 ∨ j = 1 ∨ j = 2 ∨ j = 3 ∨ j = 4 ∨ j = 5 ∨ j = 6 ∨ j = 7 ∨ j = 8 ∨ j = 9 ∨ j = 10 ∨ j = 11 ∨ j = 12 ∨ j = 13 ∨ j = 14 ∨ j = 15 ∨ j = 16 ∨ j = 17 ∨ j = 18 ∨ j = 19 ∨ j = 20 := by omega
  rcases h21 with rfl | rfl | rfl | rfl | rfl | rfl | rfl | rfl | rfl | rfl | rfl | rfl | rfl | rfl | rfl | rfl | rfl | rfl | rfl | rfl | rfl <;> cases Option.some.inj hv
  · exact h.c0
  · exact h.c1
  · exact h.c2
  · exact h.c3
  · exact h.c4
  · exact h.c5
  · exact h.c6
  · exact h.c7
  · exact h.c8
  · exact h.c9
  · exact h.c10
  · exact h.c11
  · exact h.c12
  · exact h.c13
  · exact h.c14
  · exact h.c15
  · exact h.c16
  · exact h.c17
  · exact h.c18
  · exact h.c19
  · exact h.c20
theorem infoTk : (Tryz.prog.info? 43).map (·.size) = some 21 := by kernel_rfl
theorem undTk : ∃ d, Tryz.prog.underlying 43 = some d ∧ d.isRow = true := ⟨_, Tryz.underlying43, rfl⟩
theorem TkC.loadV {w : World} {g o : Nat} {t : Tk} {pc : Option Addr} {cc : Nat} (h : TkC w g o t pc cc) : (loadVar 43 ⟨g, o, none⟩).run Tryz.prog w = .ok (tkV t pc cc) w := by
  obtain ⟨d, hu, hd⟩ := undTk
  exact run_loadVar_mid w g o 43 (tkC t pc cc) d (tk_range h) hu hd infoTk
theorem TkC.load {w : World} {g o : Nat} {t : Tk} {pc : Option Addr} {cc : Nat} (h : TkC w g o t pc cc) : (Instr.loadAt 43 (.pointer (some ⟨g, o, none⟩))).run Tryz.prog w = .ok (tkV t pc cc) w := by
  obtain ⟨d, hu, hd⟩ := undTk
  exact run_loadAt_mid w g o 43 (tkC t pc cc) d (tk_range h) hu hd infoTk
/-- A store of something great. -/
theorem wpList_st {P : Program} {ops : Array Oper} {Q : Exit → Act → World → Prop} {a : Act} {w w' : World} {rest : List Oper} {o : Oper} (ty : TypeId) (x y : Operand) (ho : o.op = .store ty x y)
    (hw : Region.wanted o (yielded ops a.tmps) = true) (p v : Value) (hx : a.eval x = p) (hy : a.eval y = v) (hr : (Instr.storeAt ty p v).run P w = .ok () w') (h : wpList P ops Q rest (a.put o.dst undef) w') : wpList P ops Q (o :: rest) a w := by
  refine wpList_step fun K hK => ?_
  rw [if_pos hw]
  unfold Oper.wp execOp
  simp only [ho, hx, hy, hr, Sem.run_bind, Result.andThen_ok]
  exact hK _ _ h
theorem tkC_one (t : Tk) (pc : Option Addr) (cc : Nat) : ∀ u ∈ tkC t pc cc, u.oneCell' = true := by
  intro u hu
  simp only [tkC, List.mem_cons, List.not_mem_nil, or_false] at hu
  rcases hu with rfl | rfl | rfl | rfl | rfl | rfl | rfl | rfl | rfl | rfl | rfl | rfl | rfl | rfl | rfl | rfl | rfl | rfl | rfl | rfl | rfl <;> rfl
theorem st_new (w : World) (z : Array Value) (hz : z.size = 21) (t : Tk) (pc : Option Addr) (cc : Nat) : (Instr.storeAt 43 (.pointer (some ⟨w.heap.size, 0, none⟩)) (tkV t pc cc)).run Tryz.prog (w.alloc (.cells z 43)) = .ok () (w.alloc (tkO t pc cc)) :=
  run_storeAt_new w 43 z (tkC t pc cc).toArray infoTk hz (all_oneCell_toArray (tkC_one t pc cc))
theorem ba_eq {a b : ByteArray} : a = b ↔ a.toList = b.toList := by
  constructor
  · intro e; rw [e]
  · intro e
    rw [ByteArray.toList_eq, ByteArray.toList_eq] at e
    exact ByteArray.ext (Array.toList_inj.1 e)
theorem tk_eq {t u : Tk} : t = u ↔ t.cst = u.cst ∧ t.op = u.op ∧ t.name.toList = u.name.toList ∧ t.id = u.id ∧ t.off = u.off ∧ t.siz = u.siz ∧ t.since = u.since ∧ t.prim = u.prim ∧ t.len = u.len ∧ t.pres = u.pres ∧ t.nul = u.nul ∧ t.lo = u.lo ∧ t.hi = u.hi ∧ t.val = u.val ∧ t.blk = u.blk ∧ t.full = u.full ∧ t.a.p = u.a.p ∧ t.a.o = u.a.o ∧ t.b.p = u.b.p ∧ t.b.o = u.b.o ∧ t.pair = u.pair := by
  rw [← ba_eq]
  obtain ⟨op1, nm1, id1, of1, sz1, si1, pr1, ln1, ps1, nu1, lo1, hi1, cs1, vl1, bk1, fl1, ⟨ap1, ao1⟩, ⟨bp1, bo1⟩, pa1⟩ := t
  obtain ⟨op2, nm2, id2, of2, sz2, si2, pr2, ln2, ps2, nu2, lo2, hi2, cs2, vl2, bk2, fl2, ⟨ap2, ao2⟩, ⟨bp2, bo2⟩, pa2⟩ := u
  simp only [Tk.mk.injEq, Sp.mk.injEq]
  constructor
  · rintro ⟨rfl, rfl, rfl, rfl, rfl, rfl, rfl, rfl, rfl, rfl, rfl, rfl, rfl, rfl, rfl, rfl, ⟨rfl, rfl⟩, ⟨rfl, rfl⟩, rfl⟩; exact ⟨rfl, rfl, rfl, rfl, rfl, rfl, rfl, rfl, rfl, rfl, rfl, rfl, rfl, rfl, rfl, rfl, rfl, rfl, rfl, rfl, rfl⟩
  · rintro ⟨rfl, rfl, rfl, rfl, rfl, rfl, rfl, rfl, rfl, rfl, rfl, rfl, rfl, rfl, rfl, rfl, rfl, rfl, rfl, rfl, rfl⟩; exact ⟨rfl, rfl, rfl, rfl, rfl, rfl, rfl, rfl, rfl, rfl, rfl, rfl, rfl, rfl, rfl, rfl, ⟨rfl, rfl⟩, ⟨rfl, rfl⟩, rfl⟩
set_option maxRecDepth 20000 in
set_option maxHeartbeats 4000000 in
theorem refSameTk_any (t u : Tk) (p1 p2 : Option Addr) (c1 c2 : Nat) (w : World) (h1 : URow w p1 w.heap.size t.cst) (h2 : URow w p2 w.heap.size u.cst) (hs : t.cst.length * 8 ≤ 140737488355328) : Calls Tryz.prog 43 #[tkV t p1 c1, tkV u p2 c2] w fun r w' => Ans r (t = u) ∧ Below w.heap.size w w' := by
  have hA := tk_of (two_1 w (tkO t p1 c1) (tkO u p2 c2))
  have hC := tk_of (two_2 w (tkO t p1 c1) (tkO u p2 c2))
  have HB : Hid (Below w.heap.size w ((w.alloc (tkO t p1 c1)).alloc (tkO u p2 c2))) := ⟨two_b w _ _⟩
  have HS : Hid (w.heap.size + 1 < ((w.alloc (tkO t p1 c1)).alloc (tkO u p2 c2)).heap.size) := ⟨by simp⟩
  replace h1 := (h1.below HB.out).mono HB.out.size
  replace h2 := (h2.below HB.out).mono HB.out.size
  simp only [tkO, tkC] at hA hC HB HS h1 h2
  generalize hW : (w.alloc (.cells [Value.int .i64 t.op, .string t.name, .int .i64 t.id, .int .i64 t.off, .int .i64 t.siz, .int .i64 t.since, .int .i64 t.prim, .int .i64 t.len, .int .i64 t.pres, .int .u64 t.nul, .int .u64 t.lo, .int .u64 t.hi, .slice p1 t.cst.length c1, .int .u64 t.val, .int .i64 t.blk, .int .i64 t.full, .int .i64 t.a.p, .int .i64 t.a.o, .int .i64 t.b.p, .int .i64 t.b.o, .int .i64 t.pair].toArray 43)).alloc _ = W at hA hC HB HS h1 h2
  have a12 : W.cell? ⟨w.heap.size, 12, none⟩ = some (.slice p1 t.cst.length c1) := hA.c12
  have b12 : W.cell? ⟨w.heap.size + 1, 12, none⟩ = some (.slice p2 u.cst.length c2) := hC.c12
  replace hA : Hid (TkC W w.heap.size 0 t p1 c1) := ⟨hA⟩
  replace hC : Hid (TkC W (w.heap.size + 1) 0 u p2 c2) := ⟨hC⟩
  by_cases hlm : t.cst.length = u.cst.length
  · have b1 : ((t.cst.length : Int) != (u.cst.length : Int)) = false := by simp [hlm]
    have HL : Hid (t.cst.length = u.cst.length) := ⟨hlm⟩
    clear hlm
    go_enter Tryz.func43, Tryz.ntmps43
    go_wp2_with fail
    clear b1
    go_loopw [5] (fun i wr => ∃ j : Nat, j ≤ t.cst.length ∧ i = .int .i64 j ∧ Below W.heap.size W wr ∧ Hid (t.cst = u.cst ↔ t.cst.drop j = u.cst.drop j)) (fun i _ => t.cst.length - (RowKit.intOf i).toNat)
    case atStart => exact ⟨0, Nat.zero_le _, rfl, Below.refl _ _, ⟨Iff.rfl⟩⟩
    case round =>
      clear a12 b12 hW
      obtain ⟨j, hj, rfl, hB, hq⟩ := hrel
      have kA := hA.out.below (Nat.lt_of_succ_lt HS.out) hB
      have kC := hC.out.below HS.out hB
      have a12 : wr.cell? ⟨w.heap.size, 12, none⟩ = some (.slice p1 t.cst.length c1) := kA.c12
      have b12 : wr.cell? ⟨w.heap.size + 1, 12, none⟩ = some (.slice p2 u.cst.length c2) := kC.c12
      by_cases hlt : j < t.cst.length
      · obtain ⟨a, hx⟩ : ∃ a, t.cst[j]? = some a := ⟨t.cst[j], List.getElem?_eq_getElem hlt⟩
        obtain ⟨b, hy⟩ : ∃ b, u.cst[j]? = some b := ⟨u.cst[j]'(by have := HL.out; omega), List.getElem?_eq_getElem (by have := HL.out; omega)⟩
        obtain ⟨g, o, rfl, hg, q0⟩ := h1.c j a hx
        obtain ⟨g2, o2, rfl, hg2, k0⟩ := h2.c j b hy
        replace q0 := (hB.cell (p := ⟨g, _, none⟩) hg).trans q0
        replace k0 := (hB.cell (p := ⟨g2, _, none⟩) hg2).trans k0
        have hlti : (j : Int) < t.cst.length := by omega
        have hltm : (j : Int) < u.cst.length := by have := HL.out; omega
        have hd : Hid (t.cst = u.cst ↔ a = b ∧ t.cst.drop (j + 1) = u.cst.drop (j + 1)) := ⟨by rw [hq.out, drop_at hx, drop_at hy, List.cons.injEq]⟩
        clear hq hx hy kA kC h1 h2
        by_cases hab : a = b
        · have z : (a != b) = false := by simp [hab]
          have HX : Hid (t.cst = u.cst ↔ t.cst.drop (j + 1) = u.cst.drop (j + 1)) := ⟨by rw [hd.out]; simp [hab]⟩
          clear hab hd
          go_wp2_with fail
          go_quiet (fail)
          go_wp2_with fail
          go_roundw
          case rel => exact ⟨j + 1, by omega, by go_num, bdN hB _, HX⟩
          case measure => simp [RowKit.intOf]; omega
        · have z : (a != b) = true := by simp [hab]
          have HX : Hid (¬ t = u) := ⟨fun e => hab (hd.out.1 (by rw [e])).1⟩
          clear hab hd
          go_wp2_with fail
          go_quiet (fail)
          go_wp2_with fail
          go_ret
          exact ⟨Ans.no HX.out, bdN (HB.out.trans (hB.mono HB.out.size)) _⟩
      · obtain rfl : j = t.cst.length := by omega
        have HX : Hid (t.cst = u.cst) := ⟨by rw [hq.out, List.drop_length, HL.out, List.drop_length]⟩
        clear hq
        have a0 : wr.cell? ⟨w.heap.size, 0, none⟩ = some (.int .i64 t.op) := kA.c0
        have a1 : wr.cell? ⟨w.heap.size, 1, none⟩ = some (.string t.name) := kA.c1
        have a2 : wr.cell? ⟨w.heap.size, 2, none⟩ = some (.int .i64 t.id) := kA.c2
        have a3 : wr.cell? ⟨w.heap.size, 3, none⟩ = some (.int .i64 t.off) := kA.c3
        have a4 : wr.cell? ⟨w.heap.size, 4, none⟩ = some (.int .i64 t.siz) := kA.c4
        have a5 : wr.cell? ⟨w.heap.size, 5, none⟩ = some (.int .i64 t.since) := kA.c5
        have a6 : wr.cell? ⟨w.heap.size, 6, none⟩ = some (.int .i64 t.prim) := kA.c6
        have a7 : wr.cell? ⟨w.heap.size, 7, none⟩ = some (.int .i64 t.len) := kA.c7
        have a8 : wr.cell? ⟨w.heap.size, 8, none⟩ = some (.int .i64 t.pres) := kA.c8
        have a9 : wr.cell? ⟨w.heap.size, 9, none⟩ = some (.int .u64 t.nul) := kA.c9
        have a10 : wr.cell? ⟨w.heap.size, 10, none⟩ = some (.int .u64 t.lo) := kA.c10
        have a11 : wr.cell? ⟨w.heap.size, 11, none⟩ = some (.int .u64 t.hi) := kA.c11
        have a12 : wr.cell? ⟨w.heap.size, 12, none⟩ = some (.slice p1 t.cst.length c1) := kA.c12
        have a13 : wr.cell? ⟨w.heap.size, 13, none⟩ = some (.int .u64 t.val) := kA.c13
        have a14 : wr.cell? ⟨w.heap.size, 14, none⟩ = some (.int .i64 t.blk) := kA.c14
        have a15 : wr.cell? ⟨w.heap.size, 15, none⟩ = some (.int .i64 t.full) := kA.c15
        have a16 : wr.cell? ⟨w.heap.size, 16, none⟩ = some (.int .i64 t.a.p) := kA.c16
        have a17 : wr.cell? ⟨w.heap.size, 17, none⟩ = some (.int .i64 t.a.o) := kA.c17
        have a18 : wr.cell? ⟨w.heap.size, 18, none⟩ = some (.int .i64 t.b.p) := kA.c18
        have a19 : wr.cell? ⟨w.heap.size, 19, none⟩ = some (.int .i64 t.b.o) := kA.c19
        have a20 : wr.cell? ⟨w.heap.size, 20, none⟩ = some (.int .i64 t.pair) := kA.c20
        have b0 : wr.cell? ⟨w.heap.size + 1, 0, none⟩ = some (.int .i64 u.op) := kC.c0
        have b1 : wr.cell? ⟨w.heap.size + 1, 1, none⟩ = some (.string u.name) := kC.c1
        have b2 : wr.cell? ⟨w.heap.size + 1, 2, none⟩ = some (.int .i64 u.id) := kC.c2
        have b3 : wr.cell? ⟨w.heap.size + 1, 3, none⟩ = some (.int .i64 u.off) := kC.c3
        have b4 : wr.cell? ⟨w.heap.size + 1, 4, none⟩ = some (.int .i64 u.siz) := kC.c4
        have b5 : wr.cell? ⟨w.heap.size + 1, 5, none⟩ = some (.int .i64 u.since) := kC.c5
        have b6 : wr.cell? ⟨w.heap.size + 1, 6, none⟩ = some (.int .i64 u.prim) := kC.c6
        have b7 : wr.cell? ⟨w.heap.size + 1, 7, none⟩ = some (.int .i64 u.len) := kC.c7
        have b8 : wr.cell? ⟨w.heap.size + 1, 8, none⟩ = some (.int .i64 u.pres) := kC.c8
        have b9 : wr.cell? ⟨w.heap.size + 1, 9, none⟩ = some (.int .u64 u.nul) := kC.c9
        have b10 : wr.cell? ⟨w.heap.size + 1, 10, none⟩ = some (.int .u64 u.lo) := kC.c10
        have b11 : wr.cell? ⟨w.heap.size + 1, 11, none⟩ = some (.int .u64 u.hi) := kC.c11
        have b12 : wr.cell? ⟨w.heap.size + 1, 12, none⟩ = some (.slice p2 u.cst.length c2) := kC.c12
        have b13 : wr.cell? ⟨w.heap.size + 1, 13, none⟩ = some (.int .u64 u.val) := kC.c13
        have b14 : wr.cell? ⟨w.heap.size + 1, 14, none⟩ = some (.int .i64 u.blk) := kC.c14
        have b15 : wr.cell? ⟨w.heap.size + 1, 15, none⟩ = some (.int .i64 u.full) := kC.c15
        have b16 : wr.cell? ⟨w.heap.size + 1, 16, none⟩ = some (.int .i64 u.a.p) := kC.c16
        have b17 : wr.cell? ⟨w.heap.size + 1, 17, none⟩ = some (.int .i64 u.a.o) := kC.c17
        have b18 : wr.cell? ⟨w.heap.size + 1, 18, none⟩ = some (.int .i64 u.b.p) := kC.c18
        have b19 : wr.cell? ⟨w.heap.size + 1, 19, none⟩ = some (.int .i64 u.b.o) := kC.c19
        have b20 : wr.cell? ⟨w.heap.size + 1, 20, none⟩ = some (.int .i64 u.pair) := kC.c20
        clear kA kC h1 h2
        have HW : Hid (Below w.heap.size w wr) := ⟨HB.out.trans (hB.mono HB.out.size)⟩
        go_wp2_with fail
        all_goals (go_ret; refine ⟨⟨_, rfl, ?_⟩, HW.out⟩; rw [tk_eq]; have HX := HX.out; first | (simp [*]; done) | (simp only [bne_iff_ne, ne_eq, bne_eq_false_iff_eq] at *; simp [*]))
  · have b1 : ((t.cst.length : Int) != (u.cst.length : Int)) = true := by simp; omega
    have HX : Hid (¬ t = u) := ⟨fun e => hlm (by rw [e])⟩
    clear hlm
    go_enter Tryz.func43, Tryz.ntmps43
    go_wp2_with fail
    go_ret
    exact ⟨Ans.no HX.out, HB.out⟩
end Go.Proofs.YtjjhfiddebmgcaaGreatDoor
namespace Go.Proofs.YtjjhfiddebmgcaaGreatDoor.J
open Go.ChangeShapes Go.WideShapes Go.ChangeAt Go.RowKit

theorem beq_ba {a b : ByteArray} (h : a ≠ b) : (a.toList == b.toList) = false :=
  beq_eq_false_iff_ne.2 fun e => h (by
    rw [ByteArray.toList_eq, ByteArray.toList_eq] at e
    exact ByteArray.ext (Array.toList_inj.1 e))
end Go.Proofs.YtjjhfiddebmgcaaGreatDoor.J
namespace Go.Proofs.YtjjhfiddebmgcaaGreatDoor.J
open Go.ChangeShapes Go.WideShapes Go.ChangeAt Go.RowKit

theorem beqT {a b : Int} (h : a = b) : (a == b) = true := by simp [h]
theorem beqF {a b : Int} (h : ¬ a = b) : (a == b) = false := beq_eq_false_iff_ne.2 h
theorem drop_at {α : Type} {l : List α} {j : Nat} {a : α} (h : l[j]? = some a) : l.drop j = a :: l.drop (j + 1) := by
  obtain ⟨h1, h2⟩ := List.getElem?_eq_some_iff.1 h
  rw [List.drop_eq_getElem_cons h1, h2]
end Go.Proofs.YtjjhfiddebmgcaaGreatDoor.J
namespace Go.Proofs.YtjjhfiddebmgcaaGreatDoor.J
open Go.ChangeShapes Go.WideShapes Go.ChangeAt Go.RowKit

end Go.Proofs.YtjjhfiddebmgcaaGreatDoor.J
namespace Go.Proofs.YtjjhfiddebmgcaaGreatDoor.J
open Go.ChangeShapes Go.WideShapes Go.ChangeAt Go.RowKit

theorem tk_ext {t u : Tk} (h1 : t.op = u.op) (h2 : t.name = u.name) (h3 : t.id = u.id) (h4 : t.since = u.since) (h5 : t.pair = u.pair) (hp : t.off = u.off ∧ t.siz = u.siz ∧ t.blk = u.blk ∧ t.full = u.full ∧ t.a = u.a ∧ t.b = u.b) (hv : t.prim = u.prim ∧ t.len = u.len ∧ t.pres = u.pres ∧ t.nul = u.nul ∧ t.lo = u.lo ∧ t.hi = u.hi ∧ t.val = u.val ∧ t.cst = u.cst) : t = u := by
  obtain ⟨p1, p2, p3, p4, p5, p6⟩ := hp
  obtain ⟨v1, v2, v3, v4, v5, v6, v7, v8⟩ := hv
  cases t; cases u
  simp only at h1 h2 h3 h4 h5 p1 p2 p3 p4 p5 p6 v1 v2 v3 v4 v5 v6 v7 v8
  subst h1 h2 h3 h4 h5 p1 p2 p3 p4 p5 p6 v1 v2 v3 v4 v5 v6 v7 v8
  rfl
end Go.Proofs.YtjjhfiddebmgcaaGreatDoor.J
namespace Go.Proofs.YtjjhfiddebmgcaaGreatDoor.J
open Go.ChangeShapes Go.WideShapes Go.ChangeAt Go.RowKit

end Go.Proofs.YtjjhfiddebmgcaaGreatDoor.J
namespace Go.Proofs.YtjjhfiddebmgcaaGreatDoor.J
open Go.ChangeShapes Go.WideShapes Go.ChangeAt Go.RowKit

abbrev fmC (f : Fm) (pp : Option Addr) (cp : Nat) : Array Value := #[.int .i64 f.ord, .int .i64 f.sch, .int .i64 f.ver, .int .i64 f.hsz, .int .i64 f.hb.p, .int .i64 f.hb.o, .int .i64 f.ht.p, .int .i64 f.ht.o, .int .i64 f.hs.p, .int .i64 f.hs.o, .int .i64 f.hv.p, .int .i64 f.hv.o, .slice pp f.toks.length cp]
end Go.Proofs.YtjjhfiddebmgcaaGreatDoor.J

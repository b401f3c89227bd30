/- IDq. -/
import Derived.Test.YtjjhfiddebmgcaaGreatDoorG06
import Derived.Test.YtjjhfiddebmgcaaGreatDoorG28
namespace Go.Proofs.YtjjhfiddebmgcaaGreatDoor
open Go.ChangeShapes Go.WideShapes Go.ChangeAt Go.RowKit Go.Shelf

theorem URow.two {w W : World} {p : Option Addr} {l : List Int} (h : URow w p w.heap.size l) (hb : Below w.heap.size w W) : URow W p W.heap.size l := (h.below hb).mono hb.size
/-- The token that the document begins with. -/
abbrev bareT (t : Tk) : Tk := ⟨t.op, t.name, 0, 0, 0, 0, 0, 0, 0, 0, 0, 0, [], 0, 0, 0, sp0, sp0, t.pair⟩
set_option maxRecDepth 20000 in
set_option maxHeartbeats 4000000 in
theorem plain_0 (t : Tk) (pc : Option Addr) (cc : Nat) (w : World) (hu : URow w pc w.heap.size t.cst) (_hs : t.cst.length * 8 ≤ 140737488355328) (ho : t.op = 0) :
    Calls Tryz.prog 28 #[tkV t pc cc] w fun r w' => Ans r (maskD t = t) ∧ Below w.heap.size w w' := by
  have d0 : (t.op == 0) = true := by simp [ho]
  have d4 : (t.op == 4) = false := by simp [ho]
  have d2 : (t.op == 2) = false := by simp [ho]
  have d6 : (t.op == 6) = false := by simp [ho]
  have d8 : (t.op == 8) = false := by simp [ho]
  have d10 : (t.op == 10) = false := by simp [ho]
  have d12 : (t.op == 12) = false := by simp [ho]
  have d14 : (t.op == 14) = false := by simp [ho]
  have d15 : (t.op == 15) = false := by simp [ho]
  have e8 : (t.op != 8) = true := by simp [ho]
  have hm : maskD t = ⟨t.op, t.name, t.id, 0, 0, t.since, 0, 0, 0, 0, 0, 0, [], 0, t.blk, t.full, sp0, sp0, t.pair⟩ := by unfold maskD; simp [ho]
  rw [hm]
  clear hm ho
  have hA := tk_of (heap_al w (tkO t pc cc))
  have HB : Below w.heap.size w (w.alloc (tkO t pc cc)) := bel1 _ _
  have HS : w.heap.size < (w.alloc (tkO t pc cc)).heap.size := by simp
  simp only [tkO, tkC] at hA HB HS
  generalize hW : w.alloc (.cells [Value.int .i64 t.op, .string t.name, .int .i64 t.id, .int .i64 t.off, .int .i64 t.siz, .int .i64 t.since, .int .i64 t.prim, .int .i64 t.len, .int .i64 t.pres, .int .u64 t.nul, .int .u64 t.lo, .int .u64 t.hi, .slice pc t.cst.length cc, .int .u64 t.val, .int .i64 t.blk, .int .i64 t.full, .int .i64 t.a.p, .int .i64 t.a.o, .int .i64 t.b.p, .int .i64 t.b.o, .int .i64 t.pair].toArray 43) = W at hA HB HS
  have c0 : W.cell? ⟨w.heap.size, 0, none⟩ = some (.int .i64 t.op) := hA.c0
  have c1 : W.cell? ⟨w.heap.size, 1, none⟩ = some (.string t.name) := hA.c1
  have c20 : W.cell? ⟨w.heap.size, 20, none⟩ = some (.int .i64 t.pair) := hA.c20
  have cX : ∀ (A : Obj), TkC (W.alloc A) w.heap.size 0 t pc cc := fun A => hA.below HS (bel1 _ _)
  have s1 := fun z hz => st_new W z hz (bareT t) none 0
  have s2 := fun z hz => st_new W z hz t pc cc
  have lt := fun A => (cX A).load
  have lx := (tk_of (heap_al W (tkO ⟨t.op, t.name, t.id, 0, 0, t.since, 0, 0, 0, 0, 0, 0, [], 0, t.blk, t.full, sp0, sp0, t.pair⟩ none 0))).load
  have lw := hA.load
  have cS := refSameTk_any ⟨t.op, t.name, t.id, 0, 0, t.since, 0, 0, 0, 0, 0, 0, [], 0, t.blk, t.full, sp0, sp0, t.pair⟩ t none pc 0 cc (W.alloc (tkO ⟨t.op, t.name, t.id, 0, 0, t.since, 0, 0, 0, 0, 0, 0, [], 0, t.blk, t.full, sp0, sp0, t.pair⟩ none 0)) (URow.nil _ _ _) (hu.two (HB.trans ((bel1 W _).mono HB.size))) (by simp)
  have HF : Hid (Below w.heap.size w (W.alloc (tkO ⟨t.op, t.name, t.id, 0, 0, t.since, 0, 0, 0, 0, 0, 0, [], 0, t.blk, t.full, sp0, sp0, t.pair⟩ none 0)) ∧ w.heap.size ≤ (W.alloc (tkO ⟨t.op, t.name, t.id, 0, 0, t.since, 0, 0, 0, 0, 0, 0, [], 0, t.blk, t.full, sp0, sp0, t.pair⟩ none 0)).heap.size) := ⟨HB.trans ((bel1 W _).mono HB.size), Nat.le_trans HB.size (al_le _ _)⟩
  simp only [tkO, tkC, bareT, List.length_nil] at s1 s2 lt lx cS HF lw
  replace s2 : Hid _ := ⟨s2⟩
  replace cS : Hid _ := ⟨cS⟩
  replace s1 : Hid _ := ⟨s1⟩
  replace lt : Hid _ := ⟨lt⟩
  replace lx : Hid _ := ⟨lx⟩
  replace lw : Hid _ := ⟨lw⟩
  replace HB : Hid _ := ⟨HB⟩
  have r2 := fun A => (cX A).c2
  have r5 := fun A => (cX A).c5
  have r14 := fun A => (cX A).c14
  have r15 := fun A => (cX A).c15
  have r0 := fun A => (cX A).c0
  clear cX hA
  go_enter Tryz.func28, Tryz.ntmps28
  go_wp2_with (first
    | (guard_target =~ wpList _ _ _ (Oper.mk _ (Op.load 43 _) _ _ _ _ :: _) _ _; go_must (first | refine wpList_ld 43 _ rfl rfl _ _ rfl lx.out ?_ | refine wpList_ld 43 _ rfl rfl _ _ rfl (lt.out _) ?_ | refine wpList_ld 43 _ rfl rfl _ _ rfl lw.out ?_); simp only [pts])
    | (guard_target =~ wpList _ _ _ (Oper.mk _ (Op.store 43 _ _) _ _ _ _ :: _) _ _; go_must (first | refine wpList_st 43 _ _ rfl rfl _ _ rfl rfl (s1.out _ rfl) ?_ | refine wpList_st 43 _ _ rfl rfl _ _ rfl rfl (s2.out _ rfl) ?_); simp only [pts]))
  refine cS.out.mono ?_
  rintro _ w1 ⟨⟨b, rfl, hb⟩, hb1⟩
  replace hb : Hid _ := ⟨hb⟩
  clear cS s1 s2 lt lx lw
  go_wp2_with fail
  go_ret
  exact ⟨⟨b, rfl, hb.out⟩, HF.out.1.trans (hb1.mono HF.out.2)⟩
set_option maxRecDepth 20000 in
set_option maxHeartbeats 4000000 in
theorem plain_4 (t : Tk) (pc : Option Addr) (cc : Nat) (w : World) (hu : URow w pc w.heap.size t.cst) (_hs : t.cst.length * 8 ≤ 140737488355328) (ho : t.op = 4) :
    Calls Tryz.prog 28 #[tkV t pc cc] w fun r w' => Ans r (maskD t = t) ∧ Below w.heap.size w w' := by
  have d0 : (t.op == 0) = false := by simp [ho]
  have d4 : (t.op == 4) = true := by simp [ho]
  have d2 : (t.op == 2) = false := by simp [ho]
  have d6 : (t.op == 6) = false := by simp [ho]
  have d8 : (t.op == 8) = false := by simp [ho]
  have d10 : (t.op == 10) = false := by simp [ho]
  have d12 : (t.op == 12) = false := by simp [ho]
  have d14 : (t.op == 14) = false := by simp [ho]
  have d15 : (t.op == 15) = false := by simp [ho]
  have e8 : (t.op != 8) = true := by simp [ho]
  have hm : maskD t = ⟨t.op, t.name, t.id, 0, t.siz, t.since, 0, 0, 0, 0, 0, 0, [], 0, t.blk, t.full, t.a, t.b, t.pair⟩ := by unfold maskD; simp [ho]
  rw [hm]
  clear hm ho
  have hA := tk_of (heap_al w (tkO t pc cc))
  have HB : Below w.heap.size w (w.alloc (tkO t pc cc)) := bel1 _ _
  have HS : w.heap.size < (w.alloc (tkO t pc cc)).heap.size := by simp
  simp only [tkO, tkC] at hA HB HS
  generalize hW : w.alloc (.cells [Value.int .i64 t.op, .string t.name, .int .i64 t.id, .int .i64 t.off, .int .i64 t.siz, .int .i64 t.since, .int .i64 t.prim, .int .i64 t.len, .int .i64 t.pres, .int .u64 t.nul, .int .u64 t.lo, .int .u64 t.hi, .slice pc t.cst.length cc, .int .u64 t.val, .int .i64 t.blk, .int .i64 t.full, .int .i64 t.a.p, .int .i64 t.a.o, .int .i64 t.b.p, .int .i64 t.b.o, .int .i64 t.pair].toArray 43) = W at hA HB HS
  have c0 : W.cell? ⟨w.heap.size, 0, none⟩ = some (.int .i64 t.op) := hA.c0
  have c1 : W.cell? ⟨w.heap.size, 1, none⟩ = some (.string t.name) := hA.c1
  have c20 : W.cell? ⟨w.heap.size, 20, none⟩ = some (.int .i64 t.pair) := hA.c20
  have cX : ∀ (A : Obj), TkC (W.alloc A) w.heap.size 0 t pc cc := fun A => hA.below HS (bel1 _ _)
  have s1 := fun z hz => st_new W z hz (bareT t) none 0
  have s2 := fun z hz => st_new W z hz t pc cc
  have lt := fun A => (cX A).load
  have lx := (tk_of (heap_al W (tkO ⟨t.op, t.name, t.id, 0, t.siz, t.since, 0, 0, 0, 0, 0, 0, [], 0, t.blk, t.full, t.a, t.b, t.pair⟩ none 0))).load
  have lw := hA.load
  have cS := refSameTk_any ⟨t.op, t.name, t.id, 0, t.siz, t.since, 0, 0, 0, 0, 0, 0, [], 0, t.blk, t.full, t.a, t.b, t.pair⟩ t none pc 0 cc (W.alloc (tkO ⟨t.op, t.name, t.id, 0, t.siz, t.since, 0, 0, 0, 0, 0, 0, [], 0, t.blk, t.full, t.a, t.b, t.pair⟩ none 0)) (URow.nil _ _ _) (hu.two (HB.trans ((bel1 W _).mono HB.size))) (by simp)
  have HF : Hid (Below w.heap.size w (W.alloc (tkO ⟨t.op, t.name, t.id, 0, t.siz, t.since, 0, 0, 0, 0, 0, 0, [], 0, t.blk, t.full, t.a, t.b, t.pair⟩ none 0)) ∧ w.heap.size ≤ (W.alloc (tkO ⟨t.op, t.name, t.id, 0, t.siz, t.since, 0, 0, 0, 0, 0, 0, [], 0, t.blk, t.full, t.a, t.b, t.pair⟩ none 0)).heap.size) := ⟨HB.trans ((bel1 W _).mono HB.size), Nat.le_trans HB.size (al_le _ _)⟩
  simp only [tkO, tkC, bareT, List.length_nil] at s1 s2 lt lx cS HF lw
  replace s2 : Hid _ := ⟨s2⟩
  replace cS : Hid _ := ⟨cS⟩
  replace s1 : Hid _ := ⟨s1⟩
  replace lt : Hid _ := ⟨lt⟩
  replace lx : Hid _ := ⟨lx⟩
  replace lw : Hid _ := ⟨lw⟩
  replace HB : Hid _ := ⟨HB⟩
  have r2 := fun A => (cX A).c2
  have r4 := fun A => (cX A).c4
  have r5 := fun A => (cX A).c5
  have r14 := fun A => (cX A).c14
  have r15 := fun A => (cX A).c15
  have r16 := fun A => (cX A).c16
  have r17 := fun A => (cX A).c17
  have r18 := fun A => (cX A).c18
  have r19 := fun A => (cX A).c19
  have r0 := fun A => (cX A).c0
  clear cX hA
  go_enter Tryz.func28, Tryz.ntmps28
  go_wp2_with (first
    | (guard_target =~ wpList _ _ _ (Oper.mk _ (Op.load 43 _) _ _ _ _ :: _) _ _; go_must (first | refine wpList_ld 43 _ rfl rfl _ _ rfl lx.out ?_ | refine wpList_ld 43 _ rfl rfl _ _ rfl (lt.out _) ?_ | refine wpList_ld 43 _ rfl rfl _ _ rfl lw.out ?_); simp only [pts])
    | (guard_target =~ wpList _ _ _ (Oper.mk _ (Op.store 43 _ _) _ _ _ _ :: _) _ _; go_must (first | refine wpList_st 43 _ _ rfl rfl _ _ rfl rfl (s1.out _ rfl) ?_ | refine wpList_st 43 _ _ rfl rfl _ _ rfl rfl (s2.out _ rfl) ?_); simp only [pts]))
  refine cS.out.mono ?_
  rintro _ w1 ⟨⟨b, rfl, hb⟩, hb1⟩
  replace hb : Hid _ := ⟨hb⟩
  clear cS s1 s2 lt lx lw
  go_wp2_with fail
  go_ret
  exact ⟨⟨b, rfl, hb.out⟩, HF.out.1.trans (hb1.mono HF.out.2)⟩
set_option maxRecDepth 20000 in
set_option maxHeartbeats 4000000 in
theorem plain_2 (t : Tk) (pc : Option Addr) (cc : Nat) (w : World) (hu : URow w pc w.heap.size t.cst) (hs : t.cst.length * 8 ≤ 140737488355328) (ho : t.op = 2) :
    Calls Tryz.prog 28 #[tkV t pc cc] w fun r w' => Ans r (maskD t = t) ∧ Below w.heap.size w w' := by
  have d0 : (t.op == 0) = false := by simp [ho]
  have d4 : (t.op == 4) = false := by simp [ho]
  have d2 : (t.op == 2) = true := by simp [ho]
  have d6 : (t.op == 6) = false := by simp [ho]
  have d8 : (t.op == 8) = false := by simp [ho]
  have d10 : (t.op == 10) = false := by simp [ho]
  have d12 : (t.op == 12) = false := by simp [ho]
  have d14 : (t.op == 14) = false := by simp [ho]
  have d15 : (t.op == 15) = false := by simp [ho]
  have e8 : (t.op != 8) = true := by simp [ho]
  have hm : maskD t = ⟨t.op, t.name, t.id, t.off, t.siz, t.since, 0, 0, t.pres, 0, 0, 0, t.cst, 0, 0, 0, sp0, sp0, t.pair⟩ := by unfold maskD; simp [ho]
  rw [hm]
  clear hm ho
  have hA := tk_of (heap_al w (tkO t pc cc))
  have HB : Below w.heap.size w (w.alloc (tkO t pc cc)) := bel1 _ _
  have HS : w.heap.size < (w.alloc (tkO t pc cc)).heap.size := by simp
  simp only [tkO, tkC] at hA HB HS
  generalize hW : w.alloc (.cells [Value.int .i64 t.op, .string t.name, .int .i64 t.id, .int .i64 t.off, .int .i64 t.siz, .int .i64 t.since, .int .i64 t.prim, .int .i64 t.len, .int .i64 t.pres, .int .u64 t.nul, .int .u64 t.lo, .int .u64 t.hi, .slice pc t.cst.length cc, .int .u64 t.val, .int .i64 t.blk, .int .i64 t.full, .int .i64 t.a.p, .int .i64 t.a.o, .int .i64 t.b.p, .int .i64 t.b.o, .int .i64 t.pair].toArray 43) = W at hA HB HS
  have c0 : W.cell? ⟨w.heap.size, 0, none⟩ = some (.int .i64 t.op) := hA.c0
  have c1 : W.cell? ⟨w.heap.size, 1, none⟩ = some (.string t.name) := hA.c1
  have c20 : W.cell? ⟨w.heap.size, 20, none⟩ = some (.int .i64 t.pair) := hA.c20
  have cX : ∀ (A : Obj), TkC (W.alloc A) w.heap.size 0 t pc cc := fun A => hA.below HS (bel1 _ _)
  have s1 := fun z hz => st_new W z hz (bareT t) none 0
  have s2 := fun z hz => st_new W z hz t pc cc
  have lt := fun A => (cX A).load
  have lx := (tk_of (heap_al W (tkO ⟨t.op, t.name, t.id, t.off, t.siz, t.since, 0, 0, t.pres, 0, 0, 0, t.cst, 0, 0, 0, sp0, sp0, t.pair⟩ pc cc))).load
  have lw := hA.load
  have cS := refSameTk_any ⟨t.op, t.name, t.id, t.off, t.siz, t.since, 0, 0, t.pres, 0, 0, 0, t.cst, 0, 0, 0, sp0, sp0, t.pair⟩ t pc pc cc cc (W.alloc (tkO ⟨t.op, t.name, t.id, t.off, t.siz, t.since, 0, 0, t.pres, 0, 0, 0, t.cst, 0, 0, 0, sp0, sp0, t.pair⟩ pc cc)) (hu.two (HB.trans ((bel1 W _).mono HB.size))) (hu.two (HB.trans ((bel1 W _).mono HB.size))) hs
  have HF : Hid (Below w.heap.size w (W.alloc (tkO ⟨t.op, t.name, t.id, t.off, t.siz, t.since, 0, 0, t.pres, 0, 0, 0, t.cst, 0, 0, 0, sp0, sp0, t.pair⟩ pc cc)) ∧ w.heap.size ≤ (W.alloc (tkO ⟨t.op, t.name, t.id, t.off, t.siz, t.since, 0, 0, t.pres, 0, 0, 0, t.cst, 0, 0, 0, sp0, sp0, t.pair⟩ pc cc)).heap.size) := ⟨HB.trans ((bel1 W _).mono HB.size), Nat.le_trans HB.size (al_le _ _)⟩
  simp only [tkO, tkC, bareT, List.length_nil] at s1 s2 lt lx cS HF lw
  replace s2 : Hid _ := ⟨s2⟩
  replace cS : Hid _ := ⟨cS⟩
  replace s1 : Hid _ := ⟨s1⟩
  replace lt : Hid _ := ⟨lt⟩
  replace lx : Hid _ := ⟨lx⟩
  replace lw : Hid _ := ⟨lw⟩
  replace HB : Hid _ := ⟨HB⟩
  have r2 := fun A => (cX A).c2
  have r3 := fun A => (cX A).c3
  have r4 := fun A => (cX A).c4
  have r5 := fun A => (cX A).c5
  have r8 := fun A => (cX A).c8
  have r12 := fun A => (cX A).c12
  have r0 := fun A => (cX A).c0
  clear cX hA
  go_enter Tryz.func28, Tryz.ntmps28
  go_wp2_with (first
    | (guard_target =~ wpList _ _ _ (Oper.mk _ (Op.load 43 _) _ _ _ _ :: _) _ _; go_must (first | refine wpList_ld 43 _ rfl rfl _ _ rfl lx.out ?_ | refine wpList_ld 43 _ rfl rfl _ _ rfl (lt.out _) ?_ | refine wpList_ld 43 _ rfl rfl _ _ rfl lw.out ?_); simp only [pts])
    | (guard_target =~ wpList _ _ _ (Oper.mk _ (Op.store 43 _ _) _ _ _ _ :: _) _ _; go_must (first | refine wpList_st 43 _ _ rfl rfl _ _ rfl rfl (s1.out _ rfl) ?_ | refine wpList_st 43 _ _ rfl rfl _ _ rfl rfl (s2.out _ rfl) ?_); simp only [pts]))
  refine cS.out.mono ?_
  rintro _ w1 ⟨⟨b, rfl, hb⟩, hb1⟩
  replace hb : Hid _ := ⟨hb⟩
  clear cS s1 s2 lt lx lw
  go_wp2_with fail
  go_ret
  exact ⟨⟨b, rfl, hb.out⟩, HF.out.1.trans (hb1.mono HF.out.2)⟩
set_option maxRecDepth 20000 in
set_option maxHeartbeats 4000000 in
theorem plain_6 (t : Tk) (pc : Option Addr) (cc : Nat) (w : World) (hu : URow w pc w.heap.size t.cst) (_hs : t.cst.length * 8 ≤ 140737488355328) (ho : t.op = 6) :
    Calls Tryz.prog 28 #[tkV t pc cc] w fun r w' => Ans r (maskD t = t) ∧ Below w.heap.size w w' := by
  have d0 : (t.op == 0) = false := by simp [ho]
  have d4 : (t.op == 4) = false := by simp [ho]
  have d2 : (t.op == 2) = false := by simp [ho]
  have d6 : (t.op == 6) = true := by simp [ho]
  have d8 : (t.op == 8) = false := by simp [ho]
  have d10 : (t.op == 10) = false := by simp [ho]
  have d12 : (t.op == 12) = false := by simp [ho]
  have d14 : (t.op == 14) = false := by simp [ho]
  have d15 : (t.op == 15) = false := by simp [ho]
  have e8 : (t.op != 8) = true := by simp [ho]
  have hm : maskD t = ⟨t.op, t.name, t.id, 0, t.siz, t.since, t.prim, 0, 0, 0, 0, 0, [], 0, 0, 0, t.a, sp0, t.pair⟩ := by unfold maskD; simp [ho]
  rw [hm]
  clear hm ho
  have hA := tk_of (heap_al w (tkO t pc cc))
  have HB : Below w.heap.size w (w.alloc (tkO t pc cc)) := bel1 _ _
  have HS : w.heap.size < (w.alloc (tkO t pc cc)).heap.size := by simp
  simp only [tkO, tkC] at hA HB HS
  generalize hW : w.alloc (.cells [Value.int .i64 t.op, .string t.name, .int .i64 t.id, .int .i64 t.off, .int .i64 t.siz, .int .i64 t.since, .int .i64 t.prim, .int .i64 t.len, .int .i64 t.pres, .int .u64 t.nul, .int .u64 t.lo, .int .u64 t.hi, .slice pc t.cst.length cc, .int .u64 t.val, .int .i64 t.blk, .int .i64 t.full, .int .i64 t.a.p, .int .i64 t.a.o, .int .i64 t.b.p, .int .i64 t.b.o, .int .i64 t.pair].toArray 43) = W at hA HB HS
  have c0 : W.cell? ⟨w.heap.size, 0, none⟩ = some (.int .i64 t.op) := hA.c0
  have c1 : W.cell? ⟨w.heap.size, 1, none⟩ = some (.string t.name) := hA.c1
  have c20 : W.cell? ⟨w.heap.size, 20, none⟩ = some (.int .i64 t.pair) := hA.c20
  have cX : ∀ (A : Obj), TkC (W.alloc A) w.heap.size 0 t pc cc := fun A => hA.below HS (bel1 _ _)
  have s1 := fun z hz => st_new W z hz (bareT t) none 0
  have s2 := fun z hz => st_new W z hz t pc cc
  have lt := fun A => (cX A).load
  have lx := (tk_of (heap_al W (tkO ⟨t.op, t.name, t.id, 0, t.siz, t.since, t.prim, 0, 0, 0, 0, 0, [], 0, 0, 0, t.a, sp0, t.pair⟩ none 0))).load
  have lw := hA.load
  have cS := refSameTk_any ⟨t.op, t.name, t.id, 0, t.siz, t.since, t.prim, 0, 0, 0, 0, 0, [], 0, 0, 0, t.a, sp0, t.pair⟩ t none pc 0 cc (W.alloc (tkO ⟨t.op, t.name, t.id, 0, t.siz, t.since, t.prim, 0, 0, 0, 0, 0, [], 0, 0, 0, t.a, sp0, t.pair⟩ none 0)) (URow.nil _ _ _) (hu.two (HB.trans ((bel1 W _).mono HB.size))) (by simp)
  have HF : Hid (Below w.heap.size w (W.alloc (tkO ⟨t.op, t.name, t.id, 0, t.siz, t.since, t.prim, 0, 0, 0, 0, 0, [], 0, 0, 0, t.a, sp0, t.pair⟩ none 0)) ∧ w.heap.size ≤ (W.alloc (tkO ⟨t.op, t.name, t.id, 0, t.siz, t.since, t.prim, 0, 0, 0, 0, 0, [], 0, 0, 0, t.a, sp0, t.pair⟩ none 0)).heap.size) := ⟨HB.trans ((bel1 W _).mono HB.size), Nat.le_trans HB.size (al_le _ _)⟩
  simp only [tkO, tkC, bareT, List.length_nil] at s1 s2 lt lx cS HF lw
  replace s2 : Hid _ := ⟨s2⟩
  replace cS : Hid _ := ⟨cS⟩
  replace s1 : Hid _ := ⟨s1⟩
  replace lt : Hid _ := ⟨lt⟩
  replace lx : Hid _ := ⟨lx⟩
  replace lw : Hid _ := ⟨lw⟩
  replace HB : Hid _ := ⟨HB⟩
  have r2 := fun A => (cX A).c2
  have r4 := fun A => (cX A).c4
  have r5 := fun A => (cX A).c5
  have r6 := fun A => (cX A).c6
  have r16 := fun A => (cX A).c16
  have r17 := fun A => (cX A).c17
  have r0 := fun A => (cX A).c0
  clear cX hA
  go_enter Tryz.func28, Tryz.ntmps28
  go_wp2_with (first
    | (guard_target =~ wpList _ _ _ (Oper.mk _ (Op.load 43 _) _ _ _ _ :: _) _ _; go_must (first | refine wpList_ld 43 _ rfl rfl _ _ rfl lx.out ?_ | refine wpList_ld 43 _ rfl rfl _ _ rfl (lt.out _) ?_ | refine wpList_ld 43 _ rfl rfl _ _ rfl lw.out ?_); simp only [pts])
    | (guard_target =~ wpList _ _ _ (Oper.mk _ (Op.store 43 _ _) _ _ _ _ :: _) _ _; go_must (first | refine wpList_st 43 _ _ rfl rfl _ _ rfl rfl (s1.out _ rfl) ?_ | refine wpList_st 43 _ _ rfl rfl _ _ rfl rfl (s2.out _ rfl) ?_); simp only [pts]))
  refine cS.out.mono ?_
  rintro _ w1 ⟨⟨b, rfl, hb⟩, hb1⟩
  replace hb : Hid _ := ⟨hb⟩
  clear cS s1 s2 lt lx lw
  go_wp2_with fail
  go_ret
  exact ⟨⟨b, rfl, hb.out⟩, HF.out.1.trans (hb1.mono HF.out.2)⟩
set_option maxRecDepth 20000 in
set_option maxHeartbeats 4000000 in
theorem plain_8 (t : Tk) (pc : Option Addr) (cc : Nat) (w : World) (hu : URow w pc w.heap.size t.cst) (_hs : t.cst.length * 8 ≤ 140737488355328) (ho : t.op = 8) :
    Calls Tryz.prog 28 #[tkV t pc cc] w fun r w' => Ans r (maskD t = t) ∧ Below w.heap.size w w' := by
  have d0 : (t.op == 0) = false := by simp [ho]
  have d4 : (t.op == 4) = false := by simp [ho]
  have d2 : (t.op == 2) = false := by simp [ho]
  have d6 : (t.op == 6) = false := by simp [ho]
  have d8 : (t.op == 8) = true := by simp [ho]
  have d10 : (t.op == 10) = false := by simp [ho]
  have d12 : (t.op == 12) = false := by simp [ho]
  have d14 : (t.op == 14) = false := by simp [ho]
  have d15 : (t.op == 15) = false := by simp [ho]
  have e8 : (t.op != 8) = false := by simp [ho]
  have hm : maskD t = ⟨t.op, t.name, 0, t.off, t.siz, 0, 0, 0, 0, 0, 0, 0, [], 0, 0, 0, sp0, sp0, t.pair⟩ := by unfold maskD; simp [ho]
  rw [hm]
  clear hm ho
  have hA := tk_of (heap_al w (tkO t pc cc))
  have HB : Below w.heap.size w (w.alloc (tkO t pc cc)) := bel1 _ _
  have HS : w.heap.size < (w.alloc (tkO t pc cc)).heap.size := by simp
  simp only [tkO, tkC] at hA HB HS
  generalize hW : w.alloc (.cells [Value.int .i64 t.op, .string t.name, .int .i64 t.id, .int .i64 t.off, .int .i64 t.siz, .int .i64 t.since, .int .i64 t.prim, .int .i64 t.len, .int .i64 t.pres, .int .u64 t.nul, .int .u64 t.lo, .int .u64 t.hi, .slice pc t.cst.length cc, .int .u64 t.val, .int .i64 t.blk, .int .i64 t.full, .int .i64 t.a.p, .int .i64 t.a.o, .int .i64 t.b.p, .int .i64 t.b.o, .int .i64 t.pair].toArray 43) = W at hA HB HS
  have c0 : W.cell? ⟨w.heap.size, 0, none⟩ = some (.int .i64 t.op) := hA.c0
  have c1 : W.cell? ⟨w.heap.size, 1, none⟩ = some (.string t.name) := hA.c1
  have c20 : W.cell? ⟨w.heap.size, 20, none⟩ = some (.int .i64 t.pair) := hA.c20
  have cX : ∀ (A : Obj), TkC (W.alloc A) w.heap.size 0 t pc cc := fun A => hA.below HS (bel1 _ _)
  have s1 := fun z hz => st_new W z hz (bareT t) none 0
  have s2 := fun z hz => st_new W z hz t pc cc
  have lt := fun A => (cX A).load
  have lx := (tk_of (heap_al W (tkO ⟨t.op, t.name, 0, t.off, t.siz, 0, 0, 0, 0, 0, 0, 0, [], 0, 0, 0, sp0, sp0, t.pair⟩ none 0))).load
  have lw := hA.load
  have cS := refSameTk_any ⟨t.op, t.name, 0, t.off, t.siz, 0, 0, 0, 0, 0, 0, 0, [], 0, 0, 0, sp0, sp0, t.pair⟩ t none pc 0 cc (W.alloc (tkO ⟨t.op, t.name, 0, t.off, t.siz, 0, 0, 0, 0, 0, 0, 0, [], 0, 0, 0, sp0, sp0, t.pair⟩ none 0)) (URow.nil _ _ _) (hu.two (HB.trans ((bel1 W _).mono HB.size))) (by simp)
  have HF : Hid (Below w.heap.size w (W.alloc (tkO ⟨t.op, t.name, 0, t.off, t.siz, 0, 0, 0, 0, 0, 0, 0, [], 0, 0, 0, sp0, sp0, t.pair⟩ none 0)) ∧ w.heap.size ≤ (W.alloc (tkO ⟨t.op, t.name, 0, t.off, t.siz, 0, 0, 0, 0, 0, 0, 0, [], 0, 0, 0, sp0, sp0, t.pair⟩ none 0)).heap.size) := ⟨HB.trans ((bel1 W _).mono HB.size), Nat.le_trans HB.size (al_le _ _)⟩
  simp only [tkO, tkC, bareT, List.length_nil] at s1 s2 lt lx cS HF lw
  replace s2 : Hid _ := ⟨s2⟩
  replace cS : Hid _ := ⟨cS⟩
  replace s1 : Hid _ := ⟨s1⟩
  replace lt : Hid _ := ⟨lt⟩
  replace lx : Hid _ := ⟨lx⟩
  replace lw : Hid _ := ⟨lw⟩
  replace HB : Hid _ := ⟨HB⟩
  have r3 := fun A => (cX A).c3
  have r4 := fun A => (cX A).c4
  have r0 := fun A => (cX A).c0
  clear cX hA
  go_enter Tryz.func28, Tryz.ntmps28
  go_wp2_with (first
    | (guard_target =~ wpList _ _ _ (Oper.mk _ (Op.load 43 _) _ _ _ _ :: _) _ _; go_must (first | refine wpList_ld 43 _ rfl rfl _ _ rfl lx.out ?_ | refine wpList_ld 43 _ rfl rfl _ _ rfl (lt.out _) ?_ | refine wpList_ld 43 _ rfl rfl _ _ rfl lw.out ?_); simp only [pts])
    | (guard_target =~ wpList _ _ _ (Oper.mk _ (Op.store 43 _ _) _ _ _ _ :: _) _ _; go_must (first | refine wpList_st 43 _ _ rfl rfl _ _ rfl rfl (s1.out _ rfl) ?_ | refine wpList_st 43 _ _ rfl rfl _ _ rfl rfl (s2.out _ rfl) ?_); simp only [pts]))
  refine cS.out.mono ?_
  rintro _ w1 ⟨⟨b, rfl, hb⟩, hb1⟩
  replace hb : Hid _ := ⟨hb⟩
  clear cS s1 s2 lt lx lw
  go_wp2_with fail
  go_ret
  exact ⟨⟨b, rfl, hb.out⟩, HF.out.1.trans (hb1.mono HF.out.2)⟩
set_option maxRecDepth 20000 in
set_option maxHeartbeats 4000000 in
theorem plain_10 (t : Tk) (pc : Option Addr) (cc : Nat) (w : World) (hu : URow w pc w.heap.size t.cst) (_hs : t.cst.length * 8 ≤ 140737488355328) (ho : t.op = 10) :
    Calls Tryz.prog 28 #[tkV t pc cc] w fun r w' => Ans r (maskD t = t) ∧ Below w.heap.size w w' := by
  have d0 : (t.op == 0) = false := by simp [ho]
  have d4 : (t.op == 4) = false := by simp [ho]
  have d2 : (t.op == 2) = false := by simp [ho]
  have d6 : (t.op == 6) = false := by simp [ho]
  have d8 : (t.op == 8) = false := by simp [ho]
  have d10 : (t.op == 10) = true := by simp [ho]
  have d12 : (t.op == 12) = false := by simp [ho]
  have d14 : (t.op == 14) = false := by simp [ho]
  have d15 : (t.op == 15) = false := by simp [ho]
  have e8 : (t.op != 8) = true := by simp [ho]
  have hm : maskD t = ⟨t.op, t.name, 0, t.off, t.siz, 0, 0, 0, t.pres, 0, 0, 0, [], 0, 0, 0, sp0, sp0, t.pair⟩ := by unfold maskD; simp [ho]
  rw [hm]
  clear hm ho
  have hA := tk_of (heap_al w (tkO t pc cc))
  have HB : Below w.heap.size w (w.alloc (tkO t pc cc)) := bel1 _ _
  have HS : w.heap.size < (w.alloc (tkO t pc cc)).heap.size := by simp
  simp only [tkO, tkC] at hA HB HS
  generalize hW : w.alloc (.cells [Value.int .i64 t.op, .string t.name, .int .i64 t.id, .int .i64 t.off, .int .i64 t.siz, .int .i64 t.since, .int .i64 t.prim, .int .i64 t.len, .int .i64 t.pres, .int .u64 t.nul, .int .u64 t.lo, .int .u64 t.hi, .slice pc t.cst.length cc, .int .u64 t.val, .int .i64 t.blk, .int .i64 t.full, .int .i64 t.a.p, .int .i64 t.a.o, .int .i64 t.b.p, .int .i64 t.b.o, .int .i64 t.pair].toArray 43) = W at hA HB HS
  have c0 : W.cell? ⟨w.heap.size, 0, none⟩ = some (.int .i64 t.op) := hA.c0
  have c1 : W.cell? ⟨w.heap.size, 1, none⟩ = some (.string t.name) := hA.c1
  have c20 : W.cell? ⟨w.heap.size, 20, none⟩ = some (.int .i64 t.pair) := hA.c20
  have cX : ∀ (A : Obj), TkC (W.alloc A) w.heap.size 0 t pc cc := fun A => hA.below HS (bel1 _ _)
  have s1 := fun z hz => st_new W z hz (bareT t) none 0
  have s2 := fun z hz => st_new W z hz t pc cc
  have lt := fun A => (cX A).load
  have lx := (tk_of (heap_al W (tkO ⟨t.op, t.name, 0, t.off, t.siz, 0, 0, 0, t.pres, 0, 0, 0, [], 0, 0, 0, sp0, sp0, t.pair⟩ none 0))).load
  have lw := hA.load
  have cS := refSameTk_any ⟨t.op, t.name, 0, t.off, t.siz, 0, 0, 0, t.pres, 0, 0, 0, [], 0, 0, 0, sp0, sp0, t.pair⟩ t none pc 0 cc (W.alloc (tkO ⟨t.op, t.name, 0, t.off, t.siz, 0, 0, 0, t.pres, 0, 0, 0, [], 0, 0, 0, sp0, sp0, t.pair⟩ none 0)) (URow.nil _ _ _) (hu.two (HB.trans ((bel1 W _).mono HB.size))) (by simp)
  have HF : Hid (Below w.heap.size w (W.alloc (tkO ⟨t.op, t.name, 0, t.off, t.siz, 0, 0, 0, t.pres, 0, 0, 0, [], 0, 0, 0, sp0, sp0, t.pair⟩ none 0)) ∧ w.heap.size ≤ (W.alloc (tkO ⟨t.op, t.name, 0, t.off, t.siz, 0, 0, 0, t.pres, 0, 0, 0, [], 0, 0, 0, sp0, sp0, t.pair⟩ none 0)).heap.size) := ⟨HB.trans ((bel1 W _).mono HB.size), Nat.le_trans HB.size (al_le _ _)⟩
  simp only [tkO, tkC, bareT, List.length_nil] at s1 s2 lt lx cS HF lw
  replace s2 : Hid _ := ⟨s2⟩
  replace cS : Hid _ := ⟨cS⟩
  replace s1 : Hid _ := ⟨s1⟩
  replace lt : Hid _ := ⟨lt⟩
  replace lx : Hid _ := ⟨lx⟩
  replace lw : Hid _ := ⟨lw⟩
  replace HB : Hid _ := ⟨HB⟩
  have r3 := fun A => (cX A).c3
  have r4 := fun A => (cX A).c4
  have r8 := fun A => (cX A).c8
  have r0 := fun A => (cX A).c0
  clear cX hA
  go_enter Tryz.func28, Tryz.ntmps28
  go_wp2_with (first
    | (guard_target =~ wpList _ _ _ (Oper.mk _ (Op.load 43 _) _ _ _ _ :: _) _ _; go_must (first | refine wpList_ld 43 _ rfl rfl _ _ rfl lx.out ?_ | refine wpList_ld 43 _ rfl rfl _ _ rfl (lt.out _) ?_ | refine wpList_ld 43 _ rfl rfl _ _ rfl lw.out ?_); simp only [pts])
    | (guard_target =~ wpList _ _ _ (Oper.mk _ (Op.store 43 _ _) _ _ _ _ :: _) _ _; go_must (first | refine wpList_st 43 _ _ rfl rfl _ _ rfl rfl (s1.out _ rfl) ?_ | refine wpList_st 43 _ _ rfl rfl _ _ rfl rfl (s2.out _ rfl) ?_); simp only [pts]))
  refine cS.out.mono ?_
  rintro _ w1 ⟨⟨b, rfl, hb⟩, hb1⟩
  replace hb : Hid _ := ⟨hb⟩
  clear cS s1 s2 lt lx lw
  go_wp2_with fail
  go_ret
  exact ⟨⟨b, rfl, hb.out⟩, HF.out.1.trans (hb1.mono HF.out.2)⟩
set_option maxRecDepth 20000 in
set_option maxHeartbeats 4000000 in
theorem plain_12 (t : Tk) (pc : Option Addr) (cc : Nat) (w : World) (hu : URow w pc w.heap.size t.cst) (_hs : t.cst.length * 8 ≤ 140737488355328) (ho : t.op = 12) :
    Calls Tryz.prog 28 #[tkV t pc cc] w fun r w' => Ans r (maskD t = t) ∧ Below w.heap.size w w' := by
  have d0 : (t.op == 0) = false := by simp [ho]
  have d4 : (t.op == 4) = false := by simp [ho]
  have d2 : (t.op == 2) = false := by simp [ho]
  have d6 : (t.op == 6) = false := by simp [ho]
  have d8 : (t.op == 8) = false := by simp [ho]
  have d10 : (t.op == 10) = false := by simp [ho]
  have d12 : (t.op == 12) = true := by simp [ho]
  have d14 : (t.op == 14) = false := by simp [ho]
  have d15 : (t.op == 15) = false := by simp [ho]
  have e8 : (t.op != 8) = true := by simp [ho]
  have hm : maskD t = ⟨t.op, t.name, 0, t.off, t.siz, 0, 0, 0, t.pres, 0, 0, 0, [], 0, 0, 0, sp0, sp0, t.pair⟩ := by unfold maskD; simp [ho]
  rw [hm]
  clear hm ho
  have hA := tk_of (heap_al w (tkO t pc cc))
  have HB : Below w.heap.size w (w.alloc (tkO t pc cc)) := bel1 _ _
  have HS : w.heap.size < (w.alloc (tkO t pc cc)).heap.size := by simp
  simp only [tkO, tkC] at hA HB HS
  generalize hW : w.alloc (.cells [Value.int .i64 t.op, .string t.name, .int .i64 t.id, .int .i64 t.off, .int .i64 t.siz, .int .i64 t.since, .int .i64 t.prim, .int .i64 t.len, .int .i64 t.pres, .int .u64 t.nul, .int .u64 t.lo, .int .u64 t.hi, .slice pc t.cst.length cc, .int .u64 t.val, .int .i64 t.blk, .int .i64 t.full, .int .i64 t.a.p, .int .i64 t.a.o, .int .i64 t.b.p, .int .i64 t.b.o, .int .i64 t.pair].toArray 43) = W at hA HB HS
  have c0 : W.cell? ⟨w.heap.size, 0, none⟩ = some (.int .i64 t.op) := hA.c0
  have c1 : W.cell? ⟨w.heap.size, 1, none⟩ = some (.string t.name) := hA.c1
  have c20 : W.cell? ⟨w.heap.size, 20, none⟩ = some (.int .i64 t.pair) := hA.c20
  have cX : ∀ (A : Obj), TkC (W.alloc A) w.heap.size 0 t pc cc := fun A => hA.below HS (bel1 _ _)
  have s1 := fun z hz => st_new W z hz (bareT t) none 0
  have s2 := fun z hz => st_new W z hz t pc cc
  have lt := fun A => (cX A).load
  have lx := (tk_of (heap_al W (tkO ⟨t.op, t.name, 0, t.off, t.siz, 0, 0, 0, t.pres, 0, 0, 0, [], 0, 0, 0, sp0, sp0, t.pair⟩ none 0))).load
  have lw := hA.load
  have cS := refSameTk_any ⟨t.op, t.name, 0, t.off, t.siz, 0, 0, 0, t.pres, 0, 0, 0, [], 0, 0, 0, sp0, sp0, t.pair⟩ t none pc 0 cc (W.alloc (tkO ⟨t.op, t.name, 0, t.off, t.siz, 0, 0, 0, t.pres, 0, 0, 0, [], 0, 0, 0, sp0, sp0, t.pair⟩ none 0)) (URow.nil _ _ _) (hu.two (HB.trans ((bel1 W _).mono HB.size))) (by simp)
  have HF : Hid (Below w.heap.size w (W.alloc (tkO ⟨t.op, t.name, 0, t.off, t.siz, 0, 0, 0, t.pres, 0, 0, 0, [], 0, 0, 0, sp0, sp0, t.pair⟩ none 0)) ∧ w.heap.size ≤ (W.alloc (tkO ⟨t.op, t.name, 0, t.off, t.siz, 0, 0, 0, t.pres, 0, 0, 0, [], 0, 0, 0, sp0, sp0, t.pair⟩ none 0)).heap.size) := ⟨HB.trans ((bel1 W _).mono HB.size), Nat.le_trans HB.size (al_le _ _)⟩
  simp only [tkO, tkC, bareT, List.length_nil] at s1 s2 lt lx cS HF lw
  replace s2 : Hid _ := ⟨s2⟩
  replace cS : Hid _ := ⟨cS⟩
  replace s1 : Hid _ := ⟨s1⟩
  replace lt : Hid _ := ⟨lt⟩
  replace lx : Hid _ := ⟨lx⟩
  replace lw : Hid _ := ⟨lw⟩
  replace HB : Hid _ := ⟨HB⟩
  have r3 := fun A => (cX A).c3
  have r4 := fun A => (cX A).c4
  have r8 := fun A => (cX A).c8
  have r0 := fun A => (cX A).c0
  clear cX hA
  go_enter Tryz.func28, Tryz.ntmps28
  go_wp2_with (first
    | (guard_target =~ wpList _ _ _ (Oper.mk _ (Op.load 43 _) _ _ _ _ :: _) _ _; go_must (first | refine wpList_ld 43 _ rfl rfl _ _ rfl lx.out ?_ | refine wpList_ld 43 _ rfl rfl _ _ rfl (lt.out _) ?_ | refine wpList_ld 43 _ rfl rfl _ _ rfl lw.out ?_); simp only [pts])
    | (guard_target =~ wpList _ _ _ (Oper.mk _ (Op.store 43 _ _) _ _ _ _ :: _) _ _; go_must (first | refine wpList_st 43 _ _ rfl rfl _ _ rfl rfl (s1.out _ rfl) ?_ | refine wpList_st 43 _ _ rfl rfl _ _ rfl rfl (s2.out _ rfl) ?_); simp only [pts]))
  refine cS.out.mono ?_
  rintro _ w1 ⟨⟨b, rfl, hb⟩, hb1⟩
  replace hb : Hid _ := ⟨hb⟩
  clear cS s1 s2 lt lx lw
  go_wp2_with fail
  go_ret
  exact ⟨⟨b, rfl, hb.out⟩, HF.out.1.trans (hb1.mono HF.out.2)⟩
set_option maxRecDepth 20000 in
set_option maxHeartbeats 4000000 in
theorem plain_14 (t : Tk) (pc : Option Addr) (cc : Nat) (w : World) (hu : URow w pc w.heap.size t.cst) (hs : t.cst.length * 8 ≤ 140737488355328) (ho : t.op = 14) :
    Calls Tryz.prog 28 #[tkV t pc cc] w fun r w' => Ans r (maskD t = t) ∧ Below w.heap.size w w' := by
  have d0 : (t.op == 0) = false := by simp [ho]
  have d4 : (t.op == 4) = false := by simp [ho]
  have d2 : (t.op == 2) = false := by simp [ho]
  have d6 : (t.op == 6) = false := by simp [ho]
  have d8 : (t.op == 8) = false := by simp [ho]
  have d10 : (t.op == 10) = false := by simp [ho]
  have d12 : (t.op == 12) = false := by simp [ho]
  have d14 : (t.op == 14) = true := by simp [ho]
  have d15 : (t.op == 15) = false := by simp [ho]
  have e8 : (t.op != 8) = true := by simp [ho]
  have hm : maskD t = ⟨t.op, t.name, 0, t.off, t.siz, 0, t.prim, t.len, t.pres, t.nul, t.lo, t.hi, t.cst, 0, 0, 0, sp0, sp0, t.pair⟩ := by unfold maskD; simp [ho]
  rw [hm]
  clear hm ho
  have hA := tk_of (heap_al w (tkO t pc cc))
  have HB : Below w.heap.size w (w.alloc (tkO t pc cc)) := bel1 _ _
  have HS : w.heap.size < (w.alloc (tkO t pc cc)).heap.size := by simp
  simp only [tkO, tkC] at hA HB HS
  generalize hW : w.alloc (.cells [Value.int .i64 t.op, .string t.name, .int .i64 t.id, .int .i64 t.off, .int .i64 t.siz, .int .i64 t.since, .int .i64 t.prim, .int .i64 t.len, .int .i64 t.pres, .int .u64 t.nul, .int .u64 t.lo, .int .u64 t.hi, .slice pc t.cst.length cc, .int .u64 t.val, .int .i64 t.blk, .int .i64 t.full, .int .i64 t.a.p, .int .i64 t.a.o, .int .i64 t.b.p, .int .i64 t.b.o, .int .i64 t.pair].toArray 43) = W at hA HB HS
  have c0 : W.cell? ⟨w.heap.size, 0, none⟩ = some (.int .i64 t.op) := hA.c0
  have c1 : W.cell? ⟨w.heap.size, 1, none⟩ = some (.string t.name) := hA.c1
  have c20 : W.cell? ⟨w.heap.size, 20, none⟩ = some (.int .i64 t.pair) := hA.c20
  have cX : ∀ (A : Obj), TkC (W.alloc A) w.heap.size 0 t pc cc := fun A => hA.below HS (bel1 _ _)
  have s1 := fun z hz => st_new W z hz (bareT t) none 0
  have s2 := fun z hz => st_new W z hz t pc cc
  have lt := fun A => (cX A).load
  have lx := (tk_of (heap_al W (tkO ⟨t.op, t.name, 0, t.off, t.siz, 0, t.prim, t.len, t.pres, t.nul, t.lo, t.hi, t.cst, 0, 0, 0, sp0, sp0, t.pair⟩ pc cc))).load
  have lw := hA.load
  have cS := refSameTk_any ⟨t.op, t.name, 0, t.off, t.siz, 0, t.prim, t.len, t.pres, t.nul, t.lo, t.hi, t.cst, 0, 0, 0, sp0, sp0, t.pair⟩ t pc pc cc cc (W.alloc (tkO ⟨t.op, t.name, 0, t.off, t.siz, 0, t.prim, t.len, t.pres, t.nul, t.lo, t.hi, t.cst, 0, 0, 0, sp0, sp0, t.pair⟩ pc cc)) (hu.two (HB.trans ((bel1 W _).mono HB.size))) (hu.two (HB.trans ((bel1 W _).mono HB.size))) hs
  have HF : Hid (Below w.heap.size w (W.alloc (tkO ⟨t.op, t.name, 0, t.off, t.siz, 0, t.prim, t.len, t.pres, t.nul, t.lo, t.hi, t.cst, 0, 0, 0, sp0, sp0, t.pair⟩ pc cc)) ∧ w.heap.size ≤ (W.alloc (tkO ⟨t.op, t.name, 0, t.off, t.siz, 0, t.prim, t.len, t.pres, t.nul, t.lo, t.hi, t.cst, 0, 0, 0, sp0, sp0, t.pair⟩ pc cc)).heap.size) := ⟨HB.trans ((bel1 W _).mono HB.size), Nat.le_trans HB.size (al_le _ _)⟩
  simp only [tkO, tkC, bareT, List.length_nil] at s1 s2 lt lx cS HF lw
  replace s2 : Hid _ := ⟨s2⟩
  replace cS : Hid _ := ⟨cS⟩
  replace s1 : Hid _ := ⟨s1⟩
  replace lt : Hid _ := ⟨lt⟩
  replace lx : Hid _ := ⟨lx⟩
  replace lw : Hid _ := ⟨lw⟩
  replace HB : Hid _ := ⟨HB⟩
  have r0 := fun A => (cX A).c0
  clear cX hA
  go_enter Tryz.func28, Tryz.ntmps28
  go_wp2_with (first
    | (guard_target =~ wpList _ _ _ (Oper.mk _ (Op.load 43 _) _ _ _ _ :: _) _ _; go_must (first | refine wpList_ld 43 _ rfl rfl _ _ rfl lx.out ?_ | refine wpList_ld 43 _ rfl rfl _ _ rfl (lt.out _) ?_ | refine wpList_ld 43 _ rfl rfl _ _ rfl lw.out ?_); simp only [pts])
    | (guard_target =~ wpList _ _ _ (Oper.mk _ (Op.store 43 _ _) _ _ _ _ :: _) _ _; go_must (first | refine wpList_st 43 _ _ rfl rfl _ _ rfl rfl (s1.out _ rfl) ?_ | refine wpList_st 43 _ _ rfl rfl _ _ rfl rfl (s2.out _ rfl) ?_); simp only [pts]))
  refine cS.out.mono ?_
  rintro _ w1 ⟨⟨b, rfl, hb⟩, hb1⟩
  replace hb : Hid _ := ⟨hb⟩
  clear cS s1 s2 lt lx lw
  go_wp2_with fail
  go_ret
  exact ⟨⟨b, rfl, hb.out⟩, HF.out.1.trans (hb1.mono HF.out.2)⟩
set_option maxRecDepth 20000 in
set_option maxHeartbeats 4000000 in
theorem plain_15 (t : Tk) (pc : Option Addr) (cc : Nat) (w : World) (hu : URow w pc w.heap.size t.cst) (_hs : t.cst.length * 8 ≤ 140737488355328) (ho : t.op = 15) :
    Calls Tryz.prog 28 #[tkV t pc cc] w fun r w' => Ans r (maskD t = t) ∧ Below w.heap.size w w' := by
  have d0 : (t.op == 0) = false := by simp [ho]
  have d4 : (t.op == 4) = false := by simp [ho]
  have d2 : (t.op == 2) = false := by simp [ho]
  have d6 : (t.op == 6) = false := by simp [ho]
  have d8 : (t.op == 8) = false := by simp [ho]
  have d10 : (t.op == 10) = false := by simp [ho]
  have d12 : (t.op == 12) = false := by simp [ho]
  have d14 : (t.op == 14) = false := by simp [ho]
  have d15 : (t.op == 15) = true := by simp [ho]
  have e8 : (t.op != 8) = true := by simp [ho]
  have hm : maskD t = ⟨t.op, t.name, 0, 0, 0, t.since, 0, 0, 0, 0, 0, 0, [], t.val, 0, 0, sp0, sp0, t.pair⟩ := by unfold maskD; simp [ho]
  rw [hm]
  clear hm ho
  have hA := tk_of (heap_al w (tkO t pc cc))
  have HB : Below w.heap.size w (w.alloc (tkO t pc cc)) := bel1 _ _
  have HS : w.heap.size < (w.alloc (tkO t pc cc)).heap.size := by simp
  simp only [tkO, tkC] at hA HB HS
  generalize hW : w.alloc (.cells [Value.int .i64 t.op, .string t.name, .int .i64 t.id, .int .i64 t.off, .int .i64 t.siz, .int .i64 t.since, .int .i64 t.prim, .int .i64 t.len, .int .i64 t.pres, .int .u64 t.nul, .int .u64 t.lo, .int .u64 t.hi, .slice pc t.cst.length cc, .int .u64 t.val, .int .i64 t.blk, .int .i64 t.full, .int .i64 t.a.p, .int .i64 t.a.o, .int .i64 t.b.p, .int .i64 t.b.o, .int .i64 t.pair].toArray 43) = W at hA HB HS
  have c0 : W.cell? ⟨w.heap.size, 0, none⟩ = some (.int .i64 t.op) := hA.c0
  have c1 : W.cell? ⟨w.heap.size, 1, none⟩ = some (.string t.name) := hA.c1
  have c20 : W.cell? ⟨w.heap.size, 20, none⟩ = some (.int .i64 t.pair) := hA.c20
  have cX : ∀ (A : Obj), TkC (W.alloc A) w.heap.size 0 t pc cc := fun A => hA.below HS (bel1 _ _)
  have s1 := fun z hz => st_new W z hz (bareT t) none 0
  have s2 := fun z hz => st_new W z hz t pc cc
  have lt := fun A => (cX A).load
  have lx := (tk_of (heap_al W (tkO ⟨t.op, t.name, 0, 0, 0, t.since, 0, 0, 0, 0, 0, 0, [], t.val, 0, 0, sp0, sp0, t.pair⟩ none 0))).load
  have lw := hA.load
  have cS := refSameTk_any ⟨t.op, t.name, 0, 0, 0, t.since, 0, 0, 0, 0, 0, 0, [], t.val, 0, 0, sp0, sp0, t.pair⟩ t none pc 0 cc (W.alloc (tkO ⟨t.op, t.name, 0, 0, 0, t.since, 0, 0, 0, 0, 0, 0, [], t.val, 0, 0, sp0, sp0, t.pair⟩ none 0)) (URow.nil _ _ _) (hu.two (HB.trans ((bel1 W _).mono HB.size))) (by simp)
  have HF : Hid (Below w.heap.size w (W.alloc (tkO ⟨t.op, t.name, 0, 0, 0, t.since, 0, 0, 0, 0, 0, 0, [], t.val, 0, 0, sp0, sp0, t.pair⟩ none 0)) ∧ w.heap.size ≤ (W.alloc (tkO ⟨t.op, t.name, 0, 0, 0, t.since, 0, 0, 0, 0, 0, 0, [], t.val, 0, 0, sp0, sp0, t.pair⟩ none 0)).heap.size) := ⟨HB.trans ((bel1 W _).mono HB.size), Nat.le_trans HB.size (al_le _ _)⟩
  simp only [tkO, tkC, bareT, List.length_nil] at s1 s2 lt lx cS HF lw
  replace s2 : Hid _ := ⟨s2⟩
  replace cS : Hid _ := ⟨cS⟩
  replace s1 : Hid _ := ⟨s1⟩
  replace lt : Hid _ := ⟨lt⟩
  replace lx : Hid _ := ⟨lx⟩
  replace lw : Hid _ := ⟨lw⟩
  replace HB : Hid _ := ⟨HB⟩
  have r5 := fun A => (cX A).c5
  have r13 := fun A => (cX A).c13
  have r0 := fun A => (cX A).c0
  clear cX hA
  go_enter Tryz.func28, Tryz.ntmps28
  go_wp2_with (first
    | (guard_target =~ wpList _ _ _ (Oper.mk _ (Op.load 43 _) _ _ _ _ :: _) _ _; go_must (first | refine wpList_ld 43 _ rfl rfl _ _ rfl lx.out ?_ | refine wpList_ld 43 _ rfl rfl _ _ rfl (lt.out _) ?_ | refine wpList_ld 43 _ rfl rfl _ _ rfl lw.out ?_); simp only [pts])
    | (guard_target =~ wpList _ _ _ (Oper.mk _ (Op.store 43 _ _) _ _ _ _ :: _) _ _; go_must (first | refine wpList_st 43 _ _ rfl rfl _ _ rfl rfl (s1.out _ rfl) ?_ | refine wpList_st 43 _ _ rfl rfl _ _ rfl rfl (s2.out _ rfl) ?_); simp only [pts]))
  refine cS.out.mono ?_
  rintro _ w1 ⟨⟨b, rfl, hb⟩, hb1⟩
  replace hb : Hid _ := ⟨hb⟩
  clear cS s1 s2 lt lx lw
  go_wp2_with fail
  go_ret
  exact ⟨⟨b, rfl, hb.out⟩, HF.out.1.trans (hb1.mono HF.out.2)⟩
set_option maxRecDepth 20000 in
set_option maxHeartbeats 4000000 in
theorem plain_99 (t : Tk) (pc : Option Addr) (cc : Nat) (w : World) (hu : URow w pc w.heap.size t.cst) (_hs : t.cst.length * 8 ≤ 140737488355328) (ho : t.op ≠ 0 ∧ t.op ≠ 4 ∧ t.op ≠ 2 ∧ t.op ≠ 6 ∧ t.op ≠ 8 ∧ t.op ≠ 10 ∧ t.op ≠ 12 ∧ t.op ≠ 14 ∧ t.op ≠ 15) :
    Calls Tryz.prog 28 #[tkV t pc cc] w fun r w' => Ans r (maskD t = t) ∧ Below w.heap.size w w' := by
  have d0 : (t.op == 0) = false := by simp [ho]
  have d4 : (t.op == 4) = false := by simp [ho]
  have d2 : (t.op == 2) = false := by simp [ho]
  have d6 : (t.op == 6) = false := by simp [ho]
  have d8 : (t.op == 8) = false := by simp [ho]
  have d10 : (t.op == 10) = false := by simp [ho]
  have d12 : (t.op == 12) = false := by simp [ho]
  have d14 : (t.op == 14) = false := by simp [ho]
  have d15 : (t.op == 15) = false := by simp [ho]
  have e8 : (t.op != 8) = true := by simp [ho]
  have hm : maskD t = ⟨t.op, t.name, 0, 0, 0, 0, 0, 0, 0, 0, 0, 0, [], 0, 0, 0, sp0, sp0, t.pair⟩ := by unfold maskD; simp [ho]
  rw [hm]
  clear hm ho
  have hA := tk_of (heap_al w (tkO t pc cc))
  have HB : Below w.heap.size w (w.alloc (tkO t pc cc)) := bel1 _ _
  have HS : w.heap.size < (w.alloc (tkO t pc cc)).heap.size := by simp
  simp only [tkO, tkC] at hA HB HS
  generalize hW : w.alloc (.cells [Value.int .i64 t.op, .string t.name, .int .i64 t.id, .int .i64 t.off, .int .i64 t.siz, .int .i64 t.since, .int .i64 t.prim, .int .i64 t.len, .int .i64 t.pres, .int .u64 t.nul, .int .u64 t.lo, .int .u64 t.hi, .slice pc t.cst.length cc, .int .u64 t.val, .int .i64 t.blk, .int .i64 t.full, .int .i64 t.a.p, .int .i64 t.a.o, .int .i64 t.b.p, .int .i64 t.b.o, .int .i64 t.pair].toArray 43) = W at hA HB HS
  have c0 : W.cell? ⟨w.heap.size, 0, none⟩ = some (.int .i64 t.op) := hA.c0
  have c1 : W.cell? ⟨w.heap.size, 1, none⟩ = some (.string t.name) := hA.c1
  have c20 : W.cell? ⟨w.heap.size, 20, none⟩ = some (.int .i64 t.pair) := hA.c20
  have cX : ∀ (A : Obj), TkC (W.alloc A) w.heap.size 0 t pc cc := fun A => hA.below HS (bel1 _ _)
  have s1 := fun z hz => st_new W z hz (bareT t) none 0
  have s2 := fun z hz => st_new W z hz t pc cc
  have lt := fun A => (cX A).load
  have lx := (tk_of (heap_al W (tkO ⟨t.op, t.name, 0, 0, 0, 0, 0, 0, 0, 0, 0, 0, [], 0, 0, 0, sp0, sp0, t.pair⟩ none 0))).load
  have lw := hA.load
  have cS := refSameTk_any ⟨t.op, t.name, 0, 0, 0, 0, 0, 0, 0, 0, 0, 0, [], 0, 0, 0, sp0, sp0, t.pair⟩ t none pc 0 cc (W.alloc (tkO ⟨t.op, t.name, 0, 0, 0, 0, 0, 0, 0, 0, 0, 0, [], 0, 0, 0, sp0, sp0, t.pair⟩ none 0)) (URow.nil _ _ _) (hu.two (HB.trans ((bel1 W _).mono HB.size))) (by simp)
  have HF : Hid (Below w.heap.size w (W.alloc (tkO ⟨t.op, t.name, 0, 0, 0, 0, 0, 0, 0, 0, 0, 0, [], 0, 0, 0, sp0, sp0, t.pair⟩ none 0)) ∧ w.heap.size ≤ (W.alloc (tkO ⟨t.op, t.name, 0, 0, 0, 0, 0, 0, 0, 0, 0, 0, [], 0, 0, 0, sp0, sp0, t.pair⟩ none 0)).heap.size) := ⟨HB.trans ((bel1 W _).mono HB.size), Nat.le_trans HB.size (al_le _ _)⟩
  simp only [tkO, tkC, bareT, List.length_nil] at s1 s2 lt lx cS HF lw
  replace s2 : Hid _ := ⟨s2⟩
  replace cS : Hid _ := ⟨cS⟩
  replace s1 : Hid _ := ⟨s1⟩
  replace lt : Hid _ := ⟨lt⟩
  replace lx : Hid _ := ⟨lx⟩
  replace lw : Hid _ := ⟨lw⟩
  replace HB : Hid _ := ⟨HB⟩
  have r0 := fun A => (cX A).c0
  clear cX hA
  go_enter Tryz.func28, Tryz.ntmps28
  go_wp2_with (first
    | (guard_target =~ wpList _ _ _ (Oper.mk _ (Op.load 43 _) _ _ _ _ :: _) _ _; go_must (first | refine wpList_ld 43 _ rfl rfl _ _ rfl lx.out ?_ | refine wpList_ld 43 _ rfl rfl _ _ rfl (lt.out _) ?_ | refine wpList_ld 43 _ rfl rfl _ _ rfl lw.out ?_); simp only [pts])
    | (guard_target =~ wpList _ _ _ (Oper.mk _ (Op.store 43 _ _) _ _ _ _ :: _) _ _; go_must (first | refine wpList_st 43 _ _ rfl rfl _ _ rfl rfl (s1.out _ rfl) ?_ | refine wpList_st 43 _ _ rfl rfl _ _ rfl rfl (s2.out _ rfl) ?_); simp only [pts]))
  refine cS.out.mono ?_
  rintro _ w1 ⟨⟨b, rfl, hb⟩, hb1⟩
  replace hb : Hid _ := ⟨hb⟩
  clear cS s1 s2 lt lx lw
  go_wp2_with fail
  go_ret
  exact ⟨⟨b, rfl, hb.out⟩, HF.out.1.trans (hb1.mono HF.out.2)⟩
theorem refPlain_any (t : Tk) (pc : Option Addr) (cc : Nat) (w : World) (hu : URow w pc w.heap.size t.cst) (hs : t.cst.length * 8 ≤ 140737488355328) :
    Calls Tryz.prog 28 #[tkV t pc cc] w fun r w' => r = .returned (.bool (plainB t)) ∧ Below w.heap.size w w' := by
  suffices hh : Calls Tryz.prog 28 #[tkV t pc cc] w fun r w' => Ans r (maskD t = t) ∧ Below w.heap.size w w' from hh.mono fun r w' h => ⟨h.1.said (maskD_iff t), h.2⟩
  by_cases h0 : t.op = 0
  · exact plain_0 t pc cc w hu hs h0
  by_cases h4 : t.op = 4
  · exact plain_4 t pc cc w hu hs h4
  by_cases h2 : t.op = 2
  · exact plain_2 t pc cc w hu hs h2
  by_cases h6 : t.op = 6
  · exact plain_6 t pc cc w hu hs h6
  by_cases h8 : t.op = 8
  · exact plain_8 t pc cc w hu hs h8
  by_cases h10 : t.op = 10
  · exact plain_10 t pc cc w hu hs h10
  by_cases h12 : t.op = 12
  · exact plain_12 t pc cc w hu hs h12
  by_cases h14 : t.op = 14
  · exact plain_14 t pc cc w hu hs h14
  by_cases h15 : t.op = 15
  · exact plain_15 t pc cc w hu hs h15
  exact plain_99 t pc cc w hu hs ⟨h0, h4, h2, h6, h8, h10, h12, h14, h15⟩
end Go.Proofs.YtjjhfiddebmgcaaGreatDoor

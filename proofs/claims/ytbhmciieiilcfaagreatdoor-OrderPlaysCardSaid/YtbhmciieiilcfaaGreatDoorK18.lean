import Derived.Test.YtbhmciieiilcfaaGreatDoorK08
namespace Go.Proofs.YtbhmciieiilcfaaGreatDoor
set_option maxRecDepth 1000000
set_option maxHeartbeats 16000000
open Go.ChangeShapes Go.WideShapes Go.ChangeAt Go.RowKit Go.Shelf Go.Maps
theorem ent_isMessage:∀ ag w,(callFunc 85 ag).run Tryz.prog w = .ok (.enter 85 ag) w:=enters_of Tryz.func85 (by kernel_rfl) rfl
theorem ent_isEndedBy:∀ ag w,(callFunc 128 ag).run Tryz.prog w = .ok (.enter 128 ag) w:=enters_of Tryz.func128 (by kernel_rfl) rfl
theorem ent_endOf:∀ ag w,(callFunc 122 ag).run Tryz.prog w = .ok (.enter 122 ag) w:=enters_of Tryz.func122 (by kernel_rfl) rfl
theorem bcall {w:World} {f:FuncId} {ag:Array Value} {v:Value} (h:∀ W,Kb [] w W->Calls Tryz.prog f ag W fun e w'=>e = .returned v/\Below W.heap.size W w'):∀ W,Kb [] w W->Calls Tryz.prog f ag W fun e w'=>e = .returned v/\Kb [] w w' :=
 fun W hW=>(h W hW).mono fun _ _ ⟨h1,h2⟩=>⟨h1,hW.trans (Kb.of_below h2)⟩
theorem isMessage_any (B gf g o m1 m2 m3:Nat) (op rl:Value) (i:Int) (dep:Nat->Int) (wh:Bool) (f:Fm) (pp:Option Addr) (cp:Nat) (t:Tk) (pc:Option Addr) (cc:Nat) (w:World) (hC:CkC w B gf op i rl m1 m2 m3 dep wh) (hF:FmC w gf 0 f pp cp) (hgf:gf<w.heap.size) (hT:TkC w g o t pc cc) (hg:g<w.heap.size) (hk:KT w) :
  Calls Tryz.prog 85 #[.pointer (some ⟨B,0,none⟩),.pointer (some ⟨g,o,none⟩)] w fun r w'=>r = .returned (.bool (msgB f t))/\Below w.heap.size w w':=by
 obtain⟨p,pB,pK,hN,t2,t5,t15,k1,m2,m4,m5,m6,m7,c1,c2,c3,c4,c5⟩:∃ p:World->Prop,(∀ W,p W->Kb [] w W) /\
   (∀ W,Kb [] w W->p W) /\
   Nonempty (CW p) /\
   (∀ θ:CW p,θ.w.cell? ⟨g,o+2,none⟩=some (.int .i64 t.id)) /\
   (∀ θ:CW p,θ.w.cell? ⟨g,o+5,none⟩=some (.int .i64 t.since)) /\
   (∀ θ:CW p,θ.w.cell? ⟨g,o+15,none⟩=some (.int .i64 t.full)) /\
   (∀ θ:CW p,θ.w.cell? ⟨B,1,none⟩=some (.pointer (some ⟨gf,0,none⟩))) /\
   (∀ θ:CW p,θ.w.cell? ⟨gf,2,none⟩=some (.int .i64 f.ver)) /\
   (∀ θ:CW p,θ.w.cell? ⟨gf,4,none⟩=some (.int .i64 f.hb.p)) /\
   (∀ θ:CW p,θ.w.cell? ⟨gf,5,none⟩=some (.int .i64 f.hb.o)) /\
   (∀ θ:CW p,θ.w.cell? ⟨gf,6,none⟩=some (.int .i64 f.ht.p)) /\
   (∀ θ:CW p,θ.w.cell? ⟨gf,7,none⟩=some (.int .i64 f.ht.o)) /\
   (∀ W,p W->Calls Tryz.prog 82 #[.int .i64 t.id,.int .i64 0,.int .i64 65535] W fun e w'=>e = .returned (.bool (bet t.id 0 65535))/\p w') /\
   (∀ W,p W->Calls Tryz.prog 82 #[.int .i64 t.since,.int .i64 0,.int .i64 f.ver] W fun e w'=>e = .returned (.bool (bet t.since 0 f.ver))/\p w') /\
   (∀ W,p W->Calls Tryz.prog 110 #[.pointer (some ⟨g,o,none⟩)] W fun e w'=>e = .returned (.bool (blkB t))/\p w') /\
   (0<=t.full/\t.full<=65535->∀ W,p W->Calls Tryz.prog 84 #[spV f.hb,.int .i64 t.full] W fun e w'=>e = .returned (.bool (telB f.hb t.full))/\p w') /\
   (0<=t.id/\t.id<=65535->∀ W,p W->Calls Tryz.prog 84 #[spV f.ht,.int .i64 t.id] W fun e w'=>e = .returned (.bool (telB f.ht t.id))/\p w') :=
  ⟨Kb [] w,
   fun _ h=>h,
   fun _ h=>h,
   ⟨⟨_,Kb.refl _ _⟩⟩,
   fun θ=>(θ.h.cell hg List.not_mem_nil).trans hT.c2,
   fun θ=>(θ.h.cell hg List.not_mem_nil).trans hT.c5,
   fun θ=>(θ.h.cell hg List.not_mem_nil).trans hT.c15,
   fun θ=>(θ.h.cell hC.lt List.not_mem_nil).trans hC.c1,
   fun θ=>(θ.h.cell hgf List.not_mem_nil).trans (by simpa using hF.c2),
   fun θ=>(θ.h.cell hgf List.not_mem_nil).trans (by simpa using hF.c4),
   fun θ=>(θ.h.cell hgf List.not_mem_nil).trans (by simpa using hF.c5),
   fun θ=>(θ.h.cell hgf List.not_mem_nil).trans (by simpa using hF.c6),
   fun θ=>(θ.h.cell hgf List.not_mem_nil).trans (by simpa using hF.c7),
   callS (isBetween_any _ _ _),
   callS (isBetween_any _ _ _),
   bcall (fun W hW=>isBlock_any t g o pc cc W (Nat.lt_of_lt_of_le hg hW.size) (hT.same (hW.block g hg List.not_mem_nil))),
   fun hz=>bcall (fun W hW=>canTell_any f.hb t.full W (hk.up (Kb0 hW)) (by omega)),
   fun hz=>bcall (fun W hW=>canTell_any f.ht t.id W (hk.up (Kb0 hW)) (by omega))⟩
 have hfl:blkB t=true->0<=t.full/\t.full<=65535:=fun e=>by
  unfold blkB at e
  rw[Bool.and_eq_true] at e
  have:=betT e.1
  have:=decT e.2
  omega
 have hzz:bet t.id 0 65535=true->0<=t.id/\t.id<=65535:=betT
 clear hC hF hT hk hg hgf
 unfold msgB
 obtain⟨q1,hq1⟩:∃ q,bet t.id 0 65535=q:=⟨_,rfl⟩
 obtain⟨q2,hq2⟩:∃ q,bet t.since 0 f.ver=q:=⟨_,rfl⟩
 obtain⟨q3,hq3⟩:∃ q,blkB t=q:=⟨_,rfl⟩
 obtain⟨q4,hq4⟩:∃ q,telB f.hb t.full=q:=⟨_,rfl⟩
 obtain⟨q5,hq5⟩:∃ q,telB f.ht t.id=q:=⟨_,rfl⟩
 rw[hq1] at c1 hzz ⊢
 rw[hq2] at c2 ⊢
 rw[hq3] at c3 hfl ⊢
 rw[hq4] at c4 ⊢
 rw[hq5] at c5 ⊢
 clear hq1 hq2 hq3 hq4 hq5
 rcases ch5 q1 q2 q3 q4 q5 with e1|⟨e1,e2⟩|⟨e1,e2,e3⟩|⟨e1,e2,e3,e4⟩|⟨e1,e2,e3,e4,e5⟩|⟨e1,e2,e3,e4,e5⟩
 ·subst e1
  go_enter Tryz.func85,Tryz.ntmps85
  go_wp2_with fail
  refine wp_region_lp p (by kernel_rfl) (by kernel_rfl) (fun _ _ d _ _ h=>by cases d<;>exact h) (pK _ (Kb.refl _ _).drew) fun W hp=>?_
  repeat (first|(refine lx_one rfl ?_;(first|go_big_quiet_skip|(go_big_quiet_want;go_big_quiet_op;go_big_quiet_on));refine wpQuiet_nil ?_)|(refine lx_p3 ent_isBetween c1 hp rfl rfl rfl (by rfl) ?_;intro W hp;simp only[pts])|(refine lx_skip (by rfl) ?_;simp only[pts]))
  refine lx_done ?_
  go_wp2_with fail
  go_ret
  exact⟨rfl,Kb0 (pB _ hp)⟩
 ·subst e1 e2
  go_enter Tryz.func85,Tryz.ntmps85
  go_wp2_with fail
  refine wp_region_lp p (by kernel_rfl) (by kernel_rfl) (fun _ _ d _ _ h=>by cases d<;>exact h) (pK _ (Kb.refl _ _).drew) fun W hp=>?_
  repeat (first|(refine lx_one rfl ?_;(first|go_big_quiet_skip|(go_big_quiet_want;go_big_quiet_op;go_big_quiet_on));refine wpQuiet_nil ?_)|(refine lx_p3 ent_isBetween c1 hp rfl rfl rfl (by rfl) ?_;intro W hp;simp only[pts])|(refine lx_p3 ent_isBetween c2 hp rfl rfl rfl (by rfl) ?_;intro W hp;simp only[pts])|(refine lx_skip (by rfl) ?_;simp only[pts]))
  refine lx_done ?_
  go_wp2_with fail
  go_ret
  exact⟨rfl,Kb0 (pB _ hp)⟩
 ·subst e1 e2 e3
  go_enter Tryz.func85,Tryz.ntmps85
  go_wp2_with fail
  refine wp_region_lp p (by kernel_rfl) (by kernel_rfl) (fun _ _ d _ _ h=>by cases d<;>exact h) (pK _ (Kb.refl _ _).drew) fun W hp=>?_
  repeat (first|(refine lx_one rfl ?_;(first|go_big_quiet_skip|(go_big_quiet_want;go_big_quiet_op;go_big_quiet_on));refine wpQuiet_nil ?_)|(refine lx_p3 ent_isBetween c1 hp rfl rfl rfl (by rfl) ?_;intro W hp;simp only[pts])|(refine lx_p3 ent_isBetween c2 hp rfl rfl rfl (by rfl) ?_;intro W hp;simp only[pts])|(refine lx_p1 ent_isBlock c3 hp rfl (by rfl) ?_;intro W hp;simp only[pts])|(refine lx_skip (by rfl) ?_;simp only[pts]))
  refine lx_done ?_
  go_wp2_with fail
  go_ret
  exact⟨rfl,Kb0 (pB _ hp)⟩
 ·subst e1 e2 e3 e4
  replace c4:=c4 (hfl rfl)
  go_enter Tryz.func85,Tryz.ntmps85
  go_wp2_with fail
  refine wp_region_lp p (by kernel_rfl) (by kernel_rfl) (fun _ _ d _ _ h=>by cases d<;>exact h) (pK _ (Kb.refl _ _).drew) fun W hp=>?_
  repeat (first|(refine lx_one rfl ?_;(first|go_big_quiet_skip|(go_big_quiet_want;go_big_quiet_op;go_big_quiet_on));refine wpQuiet_nil ?_)|(refine lx_p3 ent_isBetween c1 hp rfl rfl rfl (by rfl) ?_;intro W hp;simp only[pts])|(refine lx_p3 ent_isBetween c2 hp rfl rfl rfl (by rfl) ?_;intro W hp;simp only[pts])|(refine lx_p1 ent_isBlock c3 hp rfl (by rfl) ?_;intro W hp;simp only[pts])|(refine lx_p2 ent_canTell c4 hp rfl rfl (by rfl) ?_;intro W hp;simp only[pts])|(refine lx_skip (by rfl) ?_;simp only[pts]))
  refine lx_done ?_
  go_wp2_with fail
  go_ret
  exact⟨rfl,Kb0 (pB _ hp)⟩
 ·subst e1 e2 e3 e4 e5
  replace c4:=c4 (hfl rfl)
  replace c5:=c5 (hzz rfl)
  go_enter Tryz.func85,Tryz.ntmps85
  go_wp2_with fail
  refine wp_region_lp p (by kernel_rfl) (by kernel_rfl) (fun _ _ d _ _ h=>by cases d<;>exact h) (pK _ (Kb.refl _ _).drew) fun W hp=>?_
  repeat (first|(refine lx_one rfl ?_;(first|go_big_quiet_skip|(go_big_quiet_want;go_big_quiet_op;go_big_quiet_on));refine wpQuiet_nil ?_)|(refine lx_p3 ent_isBetween c1 hp rfl rfl rfl (by rfl) ?_;intro W hp;simp only[pts])|(refine lx_p3 ent_isBetween c2 hp rfl rfl rfl (by rfl) ?_;intro W hp;simp only[pts])|(refine lx_p1 ent_isBlock c3 hp rfl (by rfl) ?_;intro W hp;simp only[pts])|(refine lx_p2 ent_canTell c4 hp rfl rfl (by rfl) ?_;intro W hp;simp only[pts])|(refine lx_p2 ent_canTell c5 hp rfl rfl (by rfl) ?_;intro W hp;simp only[pts])|(refine lx_skip (by rfl) ?_;simp only[pts]))
  refine lx_done ?_
  go_wp2_with fail
  go_ret
  exact⟨rfl,Kb0 (pB _ hp)⟩
 ·subst e1 e2 e3 e4 e5
  replace c4:=c4 (hfl rfl)
  replace c5:=c5 (hzz rfl)
  go_enter Tryz.func85,Tryz.ntmps85
  go_wp2_with fail
  refine wp_region_lp p (by kernel_rfl) (by kernel_rfl) (fun _ _ d _ _ h=>by cases d<;>exact h) (pK _ (Kb.refl _ _).drew) fun W hp=>?_
  repeat (first|(refine lx_one rfl ?_;(first|go_big_quiet_skip|(go_big_quiet_want;go_big_quiet_op;go_big_quiet_on));refine wpQuiet_nil ?_)|(refine lx_p3 ent_isBetween c1 hp rfl rfl rfl (by rfl) ?_;intro W hp;simp only[pts])|(refine lx_p3 ent_isBetween c2 hp rfl rfl rfl (by rfl) ?_;intro W hp;simp only[pts])|(refine lx_p1 ent_isBlock c3 hp rfl (by rfl) ?_;intro W hp;simp only[pts])|(refine lx_p2 ent_canTell c4 hp rfl rfl (by rfl) ?_;intro W hp;simp only[pts])|(refine lx_p2 ent_canTell c5 hp rfl rfl (by rfl) ?_;intro W hp;simp only[pts])|(refine lx_skip (by rfl) ?_;simp only[pts]))
  refine lx_done ?_
  go_wp2_with fail
  go_ret
  exact⟨rfl,Kb0 (pB _ hp)⟩
def endT (t u:Tk) (i:Int):Bool:=(u.op==t.op+1)&&decide (u.name=t.name)&&(u.pair==i)
theorem beq_ba {a b:ByteArray} (h:a≠b):(a.toList==b.toList)=false :=
 beq_eq_false_iff_ne.2 fun e=>h (by
  rw[ByteArray.toList_eq,ByteArray.toList_eq] at e
  exact ByteArray.ext (Array.toList_inj.1 e))
theorem ba_dec (a b:ByteArray):(a.toList==b.toList)=decide (a=b):=by
 by_cases h:a=b
 ·subst h;simp
 ·rw[beq_ba h,decide_eq_false h]
theorem isEndedBy_any (B gf g o o2 m1 m2 m3:Nat) (op rl:Value) (i:Int) (dep:Nat->Int) (wh:Bool) (t u:Tk) (pc pu:Option Addr) (cc cu:Nat) (w:World) (hC:CkC w B gf op i rl m1 m2 m3 dep wh) (hT:TkC w g o t pc cc) (hU:TkC w g o2 u pu cu) (hg:g<w.heap.size) (ho:-100<=t.op/\t.op<=100) :
  Calls Tryz.prog 128 #[.pointer (some ⟨B,0,none⟩),.pointer (some ⟨g,o,none⟩),.pointer (some ⟨g,o2,none⟩)] w fun r w'=>r = .returned (.bool (endT t u i))/\Below w.heap.size w w':=by
 obtain⟨p,pB,pK,hN,t0,t1,u0,u1,u20,k2,c1⟩:∃ p:World->Prop,(∀ W,p W->Kb [] w W) /\
   (∀ W,Kb [] w W->p W) /\
   Nonempty (CW p) /\
   (∀ θ:CW p,θ.w.cell? ⟨g,o,none⟩=some (.int .i64 t.op)) /\
   (∀ θ:CW p,θ.w.cell? ⟨g,o+1,none⟩=some (.string t.name)) /\
   (∀ θ:CW p,θ.w.cell? ⟨g,o2,none⟩=some (.int .i64 u.op)) /\
   (∀ θ:CW p,θ.w.cell? ⟨g,o2+1,none⟩=some (.string u.name)) /\
   (∀ θ:CW p,θ.w.cell? ⟨g,o2+20,none⟩=some (.int .i64 u.pair)) /\
   (∀ θ:CW p,θ.w.cell? ⟨B,2,none⟩=some (.int .i64 i)) /\
   (∀ W,p W->Calls Tryz.prog 122 #[.int .i64 t.op] W fun e w'=>e = .returned (.int .i64 (t.op+1))/\p w') :=
  ⟨Kb [] w,
   fun _ h=>h,
   fun _ h=>h,
   ⟨⟨_,Kb.refl _ _⟩⟩,
   fun θ=>(θ.h.cell hg List.not_mem_nil).trans hT.c0,
   fun θ=>(θ.h.cell hg List.not_mem_nil).trans hT.c1,
   fun θ=>(θ.h.cell hg List.not_mem_nil).trans hU.c0,
   fun θ=>(θ.h.cell hg List.not_mem_nil).trans hU.c1,
   fun θ=>(θ.h.cell hg List.not_mem_nil).trans hU.c20,
   fun θ=>(θ.h.cell hC.lt List.not_mem_nil).trans hC.c2,
   callS (fun W=>endOf_any t.op W ho)⟩
 clear hC hT hU hg ho
 unfold endT
 rw[<- ba_dec]
 rcases ch2 (u.op==t.op+1) (u.name.toList==t.name.toList) with e1|⟨e1,e2⟩|⟨e1,e2⟩
 all_goals
  go_enter Tryz.func128,Tryz.ntmps128
  go_wp2_with fail
  refine wp_region_lp p (by kernel_rfl) (by kernel_rfl) (fun _ _ d _ _ h=>by cases d<;>exact h) (pK _ (Kb.refl _ _).drew) fun W hp=>?_
  repeat (first|(refine lx_one rfl ?_;(first|go_big_quiet_skip|(go_big_quiet_want;go_big_quiet_op;go_big_quiet_on));refine wpQuiet_nil ?_)|(refine lx_p1 ent_endOf c1 hp rfl (by rfl) ?_;intro W hp;simp only[pts])|(refine lx_skip (by rfl) ?_;simp only[pts]))
  refine lx_done ?_
  go_wp2_with fail
  go_ret
  exact⟨rb (by simp[*]),Kb0 (pB _ hp)⟩
end Go.Proofs.YtbhmciieiilcfaaGreatDoor

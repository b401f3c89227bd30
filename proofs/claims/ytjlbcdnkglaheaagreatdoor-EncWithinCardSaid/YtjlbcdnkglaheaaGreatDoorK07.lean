import Derived.Test.YtjlbcdnkglaheaaGreatDoorK05
namespace Go.Proofs.YtjlbcdnkglaheaaGreatDoor
set_option maxRecDepth 1000000
set_option maxHeartbeats 16000000
open Go.ChangeShapes Go.WideShapes Go.ChangeAt Go.RowKit Go.Shelf
theorem ent_isBlock:∀ ag w,(callFunc 108 ag).run Tryz.prog w = .ok (.enter 108 ag) w:=enters_of Tryz.func108 (by kernel_rfl) rfl
theorem ent_areSpots:∀ ag w,(callFunc 75 ag).run Tryz.prog w = .ok (.enter 75 ag) w:=enters_of Tryz.func75 (by kernel_rfl) rfl
theorem ent_canTell:∀ ag w,(callFunc 76 ag).run Tryz.prog w = .ok (.enter 76 ag) w:=enters_of Tryz.func76 (by kernel_rfl) rfl
theorem isBlock_any (t:Tk) (g o:Nat) (pc:Option Addr) (cc:Nat) (w:World) (hg:g<w.heap.size) (hT:TkC w g o t pc cc):Calls Tryz.prog 108 #[.pointer (some ⟨g,o,none⟩)] w fun r w'=>r = .returned (.bool (blkB t))/\Below w.heap.size w w':=by
 obtain⟨p,p0,pB,hN,f14,f15,cN⟩:∃ p:World->Prop,p (w).drew /\
   (∀ W,p W->Below w.heap.size w W) /\
   Nonempty (CW p) /\
   (∀ θ:CW p,θ.w.cell? ⟨g,o+14,none⟩=some (.int .i64 t.blk)) /\
   (∀ θ:CW p,θ.w.cell? ⟨g,o+15,none⟩=some (.int .i64 t.full)) /\
   (∀ W,p W->Calls Tryz.prog 74 #[.int .i64 t.blk,.int .i64 0,.int .i64 t.full] W fun e w'=>e = .returned (.bool (bet t.blk 0 t.full))/\p w') :=
  ⟨Below (w.heap.size) (w),
   drw (Below.refl _ _),
   fun _ h=>h,
   ⟨⟨_,Below.refl _ _⟩⟩,
   fun θ=>(hT.below hg θ.h).c14,
   fun θ=>(hT.below hg θ.h).c15,
   callS (isBetween_any _ _ _)⟩
 unfold blkB
 rcases Bool.eq_false_or_eq_true (bet t.blk 0 t.full) with k1|k1
 all_goals
  rw[k1] at cN
  go_enter Tryz.func108,Tryz.ntmps108
  go_wp2_with fail
  refine wp_region_lp p (by kernel_rfl) (by kernel_rfl) (fun _ _ d _ _ h=>by cases d<;>exact h) p0 fun W hp=>?_
  repeat (first|(refine lx_one rfl ?_;(first|go_big_quiet_skip|(go_big_quiet_want;go_big_quiet_op;go_big_quiet_on));refine wpQuiet_nil ?_)|(refine lx_p3 ent_isBetween cN hp rfl rfl rfl (by rfl) ?_;intro W hp;simp only[pts])|(refine lx_skip (by rfl) ?_;simp only[pts]))
  refine lx_done ?_
  go_wp2_with fail
  go_ret
  exact⟨rb (by simp_all),pB _ hp⟩
theorem spOk4 (n:Int) (a b c d:Sp):spOk n [] [a,b,c,d]=(lieB a n&&(lieB b n&&aptB b a)&&(lieB c n&&aptB c a&&aptB c b)&&(lieB d n&&aptB d a&&aptB d b&&aptB d c)):=by
 simp[spOk,Bool.and_assoc]
theorem spRow4 {w:World} {g:Nat} {a b c d:Sp} {ty:TypeId} (h:w.heap[g]?=some (.cells #[.int .i64 a.p,.int .i64 a.o,.int .i64 b.p,.int .i64 b.o,.int .i64 c.p,.int .i64 c.o,.int .i64 d.p,.int .i64 d.o] ty)):SpRow w g 0 [a,b,c,d] :=
 ⟨fun i s hs=>by
  rcases i with _|_|_|_|i
  ·cases hs;exact⟨cell_at h 0,cell_at h 1⟩
  ·cases hs;exact⟨cell_at h 2,cell_at h 3⟩
  ·cases hs;exact⟨cell_at h 4,cell_at h 5⟩
  ·cases hs;exact⟨cell_at h 6,cell_at h 7⟩
  ·cases hs⟩
theorem isHeaded_any (f:Fm) (g o:Nat) (pp:Option Addr) (cp:Nat) (w:World) (h:KT w) (hg:g<w.heap.size) (hF:FmC w g o f pp cp):Calls Tryz.prog 49 #[.pointer (some ⟨g,o,none⟩)] w fun r w'=>r = .returned (.bool (headB f))/\Below w.heap.size w w':=by
 have hBB:w.heap.size+1<=(w.alloc (.cells #[.int .i64 f.hsz,.int .i64 f.hb.p,.int .i64 f.hb.o,.int .i64 f.ht.p,.int .i64 f.ht.o,.int .i64 f.hs.p,.int .i64 f.hs.o,.int .i64 f.hv.p,.int .i64 f.hv.o] 27)).heap.size:=szal _ _
 obtain⟨p,pK,cT1,cT2,pC,p0,pB,hN,pA,f0,f1,f2,h0,h1,h2,h3,h4,h5,h6,h7,h8,cN1,cN2,cN3⟩:∃ p:World->Prop,(∀ W,p W->KT W)/\(0<=f.sch/\f.sch<=65535->∀ W,p W->Calls Tryz.prog 76 #[spV f.hs,.int .i64 f.sch] W fun e w'=>e = .returned (.bool (telB f.hs f.sch))/\p w')/\(0<=f.ver/\f.ver<=65534->∀ W,p W->Calls Tryz.prog 76 #[spV f.hv,.int .i64 f.ver] W fun e w'=>e = .returned (.bool (telB f.hv f.ver))/\p w')/\(∀ W w',p W->Below W.heap.size W w'->p w') /\
   p (w.alloc (.cells #[.int .i64 f.hsz,.int .i64 f.hb.p,.int .i64 f.hb.o,.int .i64 f.ht.p,.int .i64 f.ht.o,.int .i64 f.hs.p,.int .i64 f.hs.o,.int .i64 f.hv.p,.int .i64 f.hv.o] 27)).drew /\
   (∀ W,p W->Below w.heap.size w W) /\
   Nonempty (CW p) /\
   (∀ W o,p W->p (W.alloc o)) /\
   (∀ θ:CW p,θ.w.cell? ⟨g,o,none⟩=some (.int .i64 f.ord)) /\
   (∀ θ:CW p,θ.w.cell? ⟨g,o+1,none⟩=some (.int .i64 f.sch)) /\
   (∀ θ:CW p,θ.w.cell? ⟨g,o+2,none⟩=some (.int .i64 f.ver)) /\
   (∀ θ:CW p,θ.w.cell? ⟨w.heap.size,0,none⟩=some (.int .i64 f.hsz)) /\
   (∀ θ:CW p,θ.w.cell? ⟨w.heap.size,1,none⟩=some (.int .i64 f.hb.p)) /\
   (∀ θ:CW p,θ.w.cell? ⟨w.heap.size,2,none⟩=some (.int .i64 f.hb.o)) /\
   (∀ θ:CW p,θ.w.cell? ⟨w.heap.size,3,none⟩=some (.int .i64 f.ht.p)) /\
   (∀ θ:CW p,θ.w.cell? ⟨w.heap.size,4,none⟩=some (.int .i64 f.ht.o)) /\
   (∀ θ:CW p,θ.w.cell? ⟨w.heap.size,5,none⟩=some (.int .i64 f.hs.p)) /\
   (∀ θ:CW p,θ.w.cell? ⟨w.heap.size,6,none⟩=some (.int .i64 f.hs.o)) /\
   (∀ θ:CW p,θ.w.cell? ⟨w.heap.size,7,none⟩=some (.int .i64 f.hv.p)) /\
   (∀ θ:CW p,θ.w.cell? ⟨w.heap.size,8,none⟩=some (.int .i64 f.hv.o)) /\
   (∀ W,p W->Calls Tryz.prog 74 #[.int .i64 f.sch,.int .i64 0,.int .i64 65535] W fun e w'=>e = .returned (.bool (bet f.sch 0 65535))/\p w') /\
   (∀ W,p W->Calls Tryz.prog 74 #[.int .i64 f.ver,.int .i64 0,.int .i64 65534] W fun e w'=>e = .returned (.bool (bet f.ver 0 65534))/\p w') /\
   (∀ W,p W->Calls Tryz.prog 74 #[.int .i64 f.hsz,.int .i64 1,.int .i64 65535] W fun e w'=>e = .returned (.bool (bet f.hsz 1 65535))/\p w') :=
  ⟨Below (w.heap.size+1) (w.alloc (.cells #[.int .i64 f.hsz,.int .i64 f.hb.p,.int .i64 f.hb.o,.int .i64 f.ht.p,.int .i64 f.ht.o,.int .i64 f.hs.p,.int .i64 f.hs.o,.int .i64 f.hv.p,.int .i64 f.hv.o] 27)),fun W hW=>ktb h hW,fun hn=>callB hBB (fun W hW=>canTell_any f.hs f.sch W (ktb h hW) (by omega)),fun hn=>callB hBB (fun W hW=>canTell_any f.hv f.ver W (ktb h hW) (by omega)),fun W w' hW hb=>bel_call hW hBB hb,
   drw (Below.refl _ _),
   fun _ h=>bel2 h,
   ⟨⟨_,Below.refl _ _⟩⟩,
   fun _ _ h=>h.alloc (Nat.le_trans hBB h.size) _,
   fun θ=>(hF.below hg (bel2 θ.h)).c0,
   fun θ=>(hF.below hg (bel2 θ.h)).c1,
   fun θ=>(hF.below hg (bel2 θ.h)).c2,
   fun θ=>own_cell rfl θ.h 0,
   fun θ=>own_cell rfl θ.h 1,
   fun θ=>own_cell rfl θ.h 2,
   fun θ=>own_cell rfl θ.h 3,
   fun θ=>own_cell rfl θ.h 4,
   fun θ=>own_cell rfl θ.h 5,
   fun θ=>own_cell rfl θ.h 6,
   fun θ=>own_cell rfl θ.h 7,
   fun θ=>own_cell rfl θ.h 8,
   callS (isBetween_any _ _ _),
   callS (isBetween_any _ _ _),
   callS (isBetween_any _ _ _)⟩
 have g3:=hF.c3
 have g4:=hF.c4
 have g5:=hF.c5
 have g6:=hF.c6
 have g7:=hF.c7
 have g8:=hF.c8
 have g9:=hF.c9
 have g10:=hF.c10
 have g11:=hF.c11
 clear hF hBB
 unfold headB
 rw[<- spOk4]
 rcases(show f.ord=0\/(f.ord≠0/\f.ord=1)\/(f.ord≠0/\f.ord≠1) by omega) with e0|⟨e0,e1⟩|⟨e0,e1⟩
 ·have q0:(f.ord==0)=true:=beq_iff_eq.2 e0
  rcases ch6 (bet f.sch 0 65535) (bet f.ver 0 65534) (bet f.hsz 1 65535) (spOk f.hsz [] [f.hb,f.ht,f.hs,f.hv]) (telB f.hs f.sch) (telB f.hv f.ver) with k1|⟨k1,k2⟩|⟨k1,k2,k3⟩|⟨k1,k2,k3,k4⟩|⟨k1,k2,k3,k4,k5⟩|⟨k1,k2,k3,k4,k5,k6⟩|⟨k1,k2,k3,k4,k5,k6⟩
  ·rw[k1] at cN1
   go_enter Tryz.func49,Tryz.ntmps49
   go_wp2_with fail
   refine wp_region_lp p (by kernel_rfl) (by kernel_rfl) (fun _ _ d _ _ h=>by cases d<;>exact h) p0 fun W hp=>?_
   repeat (first|(refine lx_one rfl ?_;(first|go_big_quiet_skip|(go_big_quiet_want;go_big_quiet_op;go_big_quiet_on));refine wpQuiet_nil ?_)|(refine lx_p3 ent_isBetween cN1 hp rfl rfl rfl (by rfl) ?_;intro W hp;simp only[pts])|(refine lx_skip (by rfl) ?_;simp only[pts]))
   refine lx_done ?_
   go_wp2_with fail
   go_ret
   exact⟨rb (by simp[e0,k1]),pB _ hp⟩
  ·rw[k1] at cN1
   rw[k2] at cN2
   go_enter Tryz.func49,Tryz.ntmps49
   go_wp2_with fail
   refine wp_region_lp p (by kernel_rfl) (by kernel_rfl) (fun _ _ d _ _ h=>by cases d<;>exact h) p0 fun W hp=>?_
   repeat (first|(refine lx_one rfl ?_;(first|go_big_quiet_skip|(go_big_quiet_want;go_big_quiet_op;go_big_quiet_on));refine wpQuiet_nil ?_)|(refine lx_p3 ent_isBetween cN1 hp rfl rfl rfl (by rfl) ?_;intro W hp;simp only[pts])|(refine lx_p3 ent_isBetween cN2 hp rfl rfl rfl (by rfl) ?_;intro W hp;simp only[pts])|(refine lx_skip (by rfl) ?_;simp only[pts]))
   refine lx_done ?_
   go_wp2_with fail
   go_ret
   exact⟨rb (by simp[e0,k1,k2]),pB _ hp⟩
  ·rw[k1] at cN1
   rw[k2] at cN2
   rw[k3] at cN3
   go_enter Tryz.func49,Tryz.ntmps49
   go_wp2_with fail
   refine wp_region_lp p (by kernel_rfl) (by kernel_rfl) (fun _ _ d _ _ h=>by cases d<;>exact h) p0 fun W hp=>?_
   repeat (first|(refine lx_one rfl ?_;(first|go_big_quiet_skip|(go_big_quiet_want;go_big_quiet_op;go_big_quiet_on));refine wpQuiet_nil ?_)|(refine lx_p3 ent_isBetween cN1 hp rfl rfl rfl (by rfl) ?_;intro W hp;simp only[pts])|(refine lx_p3 ent_isBetween cN2 hp rfl rfl rfl (by rfl) ?_;intro W hp;simp only[pts])|(refine lx_p3 ent_isBetween cN3 hp rfl rfl rfl (by rfl) ?_;intro W hp;simp only[pts])|(refine lx_skip (by rfl) ?_;simp only[pts]))
   refine lx_done ?_
   go_wp2_with fail
   go_ret
   exact⟨rb (by simp[e0,k1,k2,k3]),pB _ hp⟩
  ·rw[k1] at cN1
   rw[k2] at cN2
   rw[k3] at cN3
   have kz:=betT k3
   go_enter Tryz.func49,Tryz.ntmps49
   go_wp2_with fail
   refine wp_region_lp p (by kernel_rfl) (by kernel_rfl) (fun _ _ d _ _ h=>by cases d<;>exact h) p0 fun W hp=>?_
   repeat (first|(refine lx_one rfl ?_;(first|go_big_quiet_skip|(go_big_quiet_want;go_big_quiet_op;go_big_quiet_on));refine wpQuiet_nil ?_)|(refine lx_p3 ent_isBetween cN1 hp rfl rfl rfl (by rfl) ?_;intro W hp;simp only[pts])|(refine lx_p3 ent_isBetween cN2 hp rfl rfl rfl (by rfl) ?_;intro W hp;simp only[pts])|(refine lx_p3 ent_isBetween cN3 hp rfl rfl rfl (by rfl) ?_;intro W hp;simp only[pts])|(refine lx_act (by rfl) (by rfl) ?_;intro K hK;go_simp;refine hK _ _ ⟨⟨_,pA _ _ hp⟩,rfl⟩ ?_;clear hK K)|(refine lx_call2 ent_areSpots (areSpots_any [f.hb,f.ht,f.hs,f.hv] f.hsz _ 0 4 _ (pK _ (pA _ _ hp)) (szal _ _) (spRow4 (heap_al _ _)) (Nat.le_refl 4) (Nat.le_refl 4) (by omega)) rfl rfl (by rfl) ?_;intro W2 hb2;have hp:=pC _ _ (pA _ _ hp) hb2;refine⟨⟨⟨_,hp⟩,rfl⟩,?_⟩;simp only[k4,pts])|(refine lx_skip (by rfl) ?_;simp only[pts]))
   refine lx_done ?_
   go_wp2_with fail
   go_ret
   exact⟨rb (by simp[e0,k1,k2,k3,k4]),pB _ hp⟩
  ·rw[k1] at cN1
   rw[k2] at cN2
   rw[k3] at cN3
   have cT1:=cT1 (betT k1)
   rw[k5] at cT1
   have kz:=betT k3
   go_enter Tryz.func49,Tryz.ntmps49
   go_wp2_with fail
   refine wp_region_lp p (by kernel_rfl) (by kernel_rfl) (fun _ _ d _ _ h=>by cases d<;>exact h) p0 fun W hp=>?_
   repeat (first|(refine lx_one rfl ?_;(first|go_big_quiet_skip|(go_big_quiet_want;go_big_quiet_op;go_big_quiet_on));refine wpQuiet_nil ?_)|(refine lx_p3 ent_isBetween cN1 hp rfl rfl rfl (by rfl) ?_;intro W hp;simp only[pts])|(refine lx_p3 ent_isBetween cN2 hp rfl rfl rfl (by rfl) ?_;intro W hp;simp only[pts])|(refine lx_p3 ent_isBetween cN3 hp rfl rfl rfl (by rfl) ?_;intro W hp;simp only[pts])|(refine lx_act (by rfl) (by rfl) ?_;intro K hK;go_simp;refine hK _ _ ⟨⟨_,pA _ _ hp⟩,rfl⟩ ?_;clear hK K)|(refine lx_call2 ent_areSpots (areSpots_any [f.hb,f.ht,f.hs,f.hv] f.hsz _ 0 4 _ (pK _ (pA _ _ hp)) (szal _ _) (spRow4 (heap_al _ _)) (Nat.le_refl 4) (Nat.le_refl 4) (by omega)) rfl rfl (by rfl) ?_;intro W2 hb2;have hp:=pC _ _ (pA _ _ hp) hb2;refine⟨⟨⟨_,hp⟩,rfl⟩,?_⟩;simp only[k4,pts])|(refine lx_p2 ent_canTell cT1 hp rfl rfl (by rfl) ?_;intro W hp;simp only[pts])|(refine lx_skip (by rfl) ?_;simp only[pts]))
   refine lx_done ?_
   go_wp2_with fail
   go_ret
   exact⟨rb (by simp[e0,k1,k2,k3,k4,k5]),pB _ hp⟩
  ·rw[k1] at cN1
   rw[k2] at cN2
   rw[k3] at cN3
   have cT1:=cT1 (betT k1)
   rw[k5] at cT1
   have cT2:=cT2 (betT k2)
   rw[k6] at cT2
   have kz:=betT k3
   go_enter Tryz.func49,Tryz.ntmps49
   go_wp2_with fail
   refine wp_region_lp p (by kernel_rfl) (by kernel_rfl) (fun _ _ d _ _ h=>by cases d<;>exact h) p0 fun W hp=>?_
   repeat (first|(refine lx_one rfl ?_;(first|go_big_quiet_skip|(go_big_quiet_want;go_big_quiet_op;go_big_quiet_on));refine wpQuiet_nil ?_)|(refine lx_p3 ent_isBetween cN1 hp rfl rfl rfl (by rfl) ?_;intro W hp;simp only[pts])|(refine lx_p3 ent_isBetween cN2 hp rfl rfl rfl (by rfl) ?_;intro W hp;simp only[pts])|(refine lx_p3 ent_isBetween cN3 hp rfl rfl rfl (by rfl) ?_;intro W hp;simp only[pts])|(refine lx_act (by rfl) (by rfl) ?_;intro K hK;go_simp;refine hK _ _ ⟨⟨_,pA _ _ hp⟩,rfl⟩ ?_;clear hK K)|(refine lx_call2 ent_areSpots (areSpots_any [f.hb,f.ht,f.hs,f.hv] f.hsz _ 0 4 _ (pK _ (pA _ _ hp)) (szal _ _) (spRow4 (heap_al _ _)) (Nat.le_refl 4) (Nat.le_refl 4) (by omega)) rfl rfl (by rfl) ?_;intro W2 hb2;have hp:=pC _ _ (pA _ _ hp) hb2;refine⟨⟨⟨_,hp⟩,rfl⟩,?_⟩;simp only[k4,pts])|(refine lx_p2 ent_canTell cT1 hp rfl rfl (by rfl) ?_;intro W hp;simp only[pts])|(refine lx_p2 ent_canTell cT2 hp rfl rfl (by rfl) ?_;intro W hp;simp only[pts])|(refine lx_skip (by rfl) ?_;simp only[pts]))
   refine lx_done ?_
   go_wp2_with fail
   go_ret
   exact⟨rb (by simp[e0,k1,k2,k3,k4,k5,k6]),pB _ hp⟩
  ·rw[k1] at cN1
   rw[k2] at cN2
   rw[k3] at cN3
   have cT1:=cT1 (betT k1)
   rw[k5] at cT1
   have cT2:=cT2 (betT k2)
   rw[k6] at cT2
   have kz:=betT k3
   go_enter Tryz.func49,Tryz.ntmps49
   go_wp2_with fail
   refine wp_region_lp p (by kernel_rfl) (by kernel_rfl) (fun _ _ d _ _ h=>by cases d<;>exact h) p0 fun W hp=>?_
   repeat (first|(refine lx_one rfl ?_;(first|go_big_quiet_skip|(go_big_quiet_want;go_big_quiet_op;go_big_quiet_on));refine wpQuiet_nil ?_)|(refine lx_p3 ent_isBetween cN1 hp rfl rfl rfl (by rfl) ?_;intro W hp;simp only[pts])|(refine lx_p3 ent_isBetween cN2 hp rfl rfl rfl (by rfl) ?_;intro W hp;simp only[pts])|(refine lx_p3 ent_isBetween cN3 hp rfl rfl rfl (by rfl) ?_;intro W hp;simp only[pts])|(refine lx_act (by rfl) (by rfl) ?_;intro K hK;go_simp;refine hK _ _ ⟨⟨_,pA _ _ hp⟩,rfl⟩ ?_;clear hK K)|(refine lx_call2 ent_areSpots (areSpots_any [f.hb,f.ht,f.hs,f.hv] f.hsz _ 0 4 _ (pK _ (pA _ _ hp)) (szal _ _) (spRow4 (heap_al _ _)) (Nat.le_refl 4) (Nat.le_refl 4) (by omega)) rfl rfl (by rfl) ?_;intro W2 hb2;have hp:=pC _ _ (pA _ _ hp) hb2;refine⟨⟨⟨_,hp⟩,rfl⟩,?_⟩;simp only[k4,pts])|(refine lx_p2 ent_canTell cT1 hp rfl rfl (by rfl) ?_;intro W hp;simp only[pts])|(refine lx_p2 ent_canTell cT2 hp rfl rfl (by rfl) ?_;intro W hp;simp only[pts])|(refine lx_skip (by rfl) ?_;simp only[pts]))
   refine lx_done ?_
   go_wp2_with fail
   go_ret
   exact⟨rb (by simp[e0,k1,k2,k3,k4,k5,k6]),pB _ hp⟩
 ·have q0:(f.ord==0)=false:=beq_eq_false_iff_ne.2 e0
  have q1:(f.ord==1)=true:=beq_iff_eq.2 e1
  rcases ch6 (bet f.sch 0 65535) (bet f.ver 0 65534) (bet f.hsz 1 65535) (spOk f.hsz [] [f.hb,f.ht,f.hs,f.hv]) (telB f.hs f.sch) (telB f.hv f.ver) with k1|⟨k1,k2⟩|⟨k1,k2,k3⟩|⟨k1,k2,k3,k4⟩|⟨k1,k2,k3,k4,k5⟩|⟨k1,k2,k3,k4,k5,k6⟩|⟨k1,k2,k3,k4,k5,k6⟩
  ·rw[k1] at cN1
   go_enter Tryz.func49,Tryz.ntmps49
   go_wp2_with fail
   refine wp_region_lp p (by kernel_rfl) (by kernel_rfl) (fun _ _ d _ _ h=>by cases d<;>exact h) p0 fun W hp=>?_
   repeat (first|(refine lx_one rfl ?_;(first|go_big_quiet_skip|(go_big_quiet_want;go_big_quiet_op;go_big_quiet_on));refine wpQuiet_nil ?_)|(refine lx_p3 ent_isBetween cN1 hp rfl rfl rfl (by rfl) ?_;intro W hp;simp only[pts])|(refine lx_skip (by rfl) ?_;simp only[pts]))
   refine lx_done ?_
   go_wp2_with fail
   go_ret
   exact⟨rb (by simp[e1,k1]),pB _ hp⟩
  ·rw[k1] at cN1
   rw[k2] at cN2
   go_enter Tryz.func49,Tryz.ntmps49
   go_wp2_with fail
   refine wp_region_lp p (by kernel_rfl) (by kernel_rfl) (fun _ _ d _ _ h=>by cases d<;>exact h) p0 fun W hp=>?_
   repeat (first|(refine lx_one rfl ?_;(first|go_big_quiet_skip|(go_big_quiet_want;go_big_quiet_op;go_big_quiet_on));refine wpQuiet_nil ?_)|(refine lx_p3 ent_isBetween cN1 hp rfl rfl rfl (by rfl) ?_;intro W hp;simp only[pts])|(refine lx_p3 ent_isBetween cN2 hp rfl rfl rfl (by rfl) ?_;intro W hp;simp only[pts])|(refine lx_skip (by rfl) ?_;simp only[pts]))
   refine lx_done ?_
   go_wp2_with fail
   go_ret
   exact⟨rb (by simp[e1,k1,k2]),pB _ hp⟩
  ·rw[k1] at cN1
   rw[k2] at cN2
   rw[k3] at cN3
   go_enter Tryz.func49,Tryz.ntmps49
   go_wp2_with fail
   refine wp_region_lp p (by kernel_rfl) (by kernel_rfl) (fun _ _ d _ _ h=>by cases d<;>exact h) p0 fun W hp=>?_
   repeat (first|(refine lx_one rfl ?_;(first|go_big_quiet_skip|(go_big_quiet_want;go_big_quiet_op;go_big_quiet_on));refine wpQuiet_nil ?_)|(refine lx_p3 ent_isBetween cN1 hp rfl rfl rfl (by rfl) ?_;intro W hp;simp only[pts])|(refine lx_p3 ent_isBetween cN2 hp rfl rfl rfl (by rfl) ?_;intro W hp;simp only[pts])|(refine lx_p3 ent_isBetween cN3 hp rfl rfl rfl (by rfl) ?_;intro W hp;simp only[pts])|(refine lx_skip (by rfl) ?_;simp only[pts]))
   refine lx_done ?_
   go_wp2_with fail
   go_ret
   exact⟨rb (by simp[e1,k1,k2,k3]),pB _ hp⟩
  ·rw[k1] at cN1
   rw[k2] at cN2
   rw[k3] at cN3
   have kz:=betT k3
   go_enter Tryz.func49,Tryz.ntmps49
   go_wp2_with fail
   refine wp_region_lp p (by kernel_rfl) (by kernel_rfl) (fun _ _ d _ _ h=>by cases d<;>exact h) p0 fun W hp=>?_
   repeat (first|(refine lx_one rfl ?_;(first|go_big_quiet_skip|(go_big_quiet_want;go_big_quiet_op;go_big_quiet_on));refine wpQuiet_nil ?_)|(refine lx_p3 ent_isBetween cN1 hp rfl rfl rfl (by rfl) ?_;intro W hp;simp only[pts])|(refine lx_p3 ent_isBetween cN2 hp rfl rfl rfl (by rfl) ?_;intro W hp;simp only[pts])|(refine lx_p3 ent_isBetween cN3 hp rfl rfl rfl (by rfl) ?_;intro W hp;simp only[pts])|(refine lx_act (by rfl) (by rfl) ?_;intro K hK;go_simp;refine hK _ _ ⟨⟨_,pA _ _ hp⟩,rfl⟩ ?_;clear hK K)|(refine lx_call2 ent_areSpots (areSpots_any [f.hb,f.ht,f.hs,f.hv] f.hsz _ 0 4 _ (pK _ (pA _ _ hp)) (szal _ _) (spRow4 (heap_al _ _)) (Nat.le_refl 4) (Nat.le_refl 4) (by omega)) rfl rfl (by rfl) ?_;intro W2 hb2;have hp:=pC _ _ (pA _ _ hp) hb2;refine⟨⟨⟨_,hp⟩,rfl⟩,?_⟩;simp only[k4,pts])|(refine lx_skip (by rfl) ?_;simp only[pts]))
   refine lx_done ?_
   go_wp2_with fail
   go_ret
   exact⟨rb (by simp[e1,k1,k2,k3,k4]),pB _ hp⟩
  ·rw[k1] at cN1
   rw[k2] at cN2
   rw[k3] at cN3
   have cT1:=cT1 (betT k1)
   rw[k5] at cT1
   have kz:=betT k3
   go_enter Tryz.func49,Tryz.ntmps49
   go_wp2_with fail
   refine wp_region_lp p (by kernel_rfl) (by kernel_rfl) (fun _ _ d _ _ h=>by cases d<;>exact h) p0 fun W hp=>?_
   repeat (first|(refine lx_one rfl ?_;(first|go_big_quiet_skip|(go_big_quiet_want;go_big_quiet_op;go_big_quiet_on));refine wpQuiet_nil ?_)|(refine lx_p3 ent_isBetween cN1 hp rfl rfl rfl (by rfl) ?_;intro W hp;simp only[pts])|(refine lx_p3 ent_isBetween cN2 hp rfl rfl rfl (by rfl) ?_;intro W hp;simp only[pts])|(refine lx_p3 ent_isBetween cN3 hp rfl rfl rfl (by rfl) ?_;intro W hp;simp only[pts])|(refine lx_act (by rfl) (by rfl) ?_;intro K hK;go_simp;refine hK _ _ ⟨⟨_,pA _ _ hp⟩,rfl⟩ ?_;clear hK K)|(refine lx_call2 ent_areSpots (areSpots_any [f.hb,f.ht,f.hs,f.hv] f.hsz _ 0 4 _ (pK _ (pA _ _ hp)) (szal _ _) (spRow4 (heap_al _ _)) (Nat.le_refl 4) (Nat.le_refl 4) (by omega)) rfl rfl (by rfl) ?_;intro W2 hb2;have hp:=pC _ _ (pA _ _ hp) hb2;refine⟨⟨⟨_,hp⟩,rfl⟩,?_⟩;simp only[k4,pts])|(refine lx_p2 ent_canTell cT1 hp rfl rfl (by rfl) ?_;intro W hp;simp only[pts])|(refine lx_skip (by rfl) ?_;simp only[pts]))
   refine lx_done ?_
   go_wp2_with fail
   go_ret
   exact⟨rb (by simp[e1,k1,k2,k3,k4,k5]),pB _ hp⟩
  ·rw[k1] at cN1
   rw[k2] at cN2
   rw[k3] at cN3
   have cT1:=cT1 (betT k1)
   rw[k5] at cT1
   have cT2:=cT2 (betT k2)
   rw[k6] at cT2
   have kz:=betT k3
   go_enter Tryz.func49,Tryz.ntmps49
   go_wp2_with fail
   refine wp_region_lp p (by kernel_rfl) (by kernel_rfl) (fun _ _ d _ _ h=>by cases d<;>exact h) p0 fun W hp=>?_
   repeat (first|(refine lx_one rfl ?_;(first|go_big_quiet_skip|(go_big_quiet_want;go_big_quiet_op;go_big_quiet_on));refine wpQuiet_nil ?_)|(refine lx_p3 ent_isBetween cN1 hp rfl rfl rfl (by rfl) ?_;intro W hp;simp only[pts])|(refine lx_p3 ent_isBetween cN2 hp rfl rfl rfl (by rfl) ?_;intro W hp;simp only[pts])|(refine lx_p3 ent_isBetween cN3 hp rfl rfl rfl (by rfl) ?_;intro W hp;simp only[pts])|(refine lx_act (by rfl) (by rfl) ?_;intro K hK;go_simp;refine hK _ _ ⟨⟨_,pA _ _ hp⟩,rfl⟩ ?_;clear hK K)|(refine lx_call2 ent_areSpots (areSpots_any [f.hb,f.ht,f.hs,f.hv] f.hsz _ 0 4 _ (pK _ (pA _ _ hp)) (szal _ _) (spRow4 (heap_al _ _)) (Nat.le_refl 4) (Nat.le_refl 4) (by omega)) rfl rfl (by rfl) ?_;intro W2 hb2;have hp:=pC _ _ (pA _ _ hp) hb2;refine⟨⟨⟨_,hp⟩,rfl⟩,?_⟩;simp only[k4,pts])|(refine lx_p2 ent_canTell cT1 hp rfl rfl (by rfl) ?_;intro W hp;simp only[pts])|(refine lx_p2 ent_canTell cT2 hp rfl rfl (by rfl) ?_;intro W hp;simp only[pts])|(refine lx_skip (by rfl) ?_;simp only[pts]))
   refine lx_done ?_
   go_wp2_with fail
   go_ret
   exact⟨rb (by simp[e1,k1,k2,k3,k4,k5,k6]),pB _ hp⟩
  ·rw[k1] at cN1
   rw[k2] at cN2
   rw[k3] at cN3
   have cT1:=cT1 (betT k1)
   rw[k5] at cT1
   have cT2:=cT2 (betT k2)
   rw[k6] at cT2
   have kz:=betT k3
   go_enter Tryz.func49,Tryz.ntmps49
   go_wp2_with fail
   refine wp_region_lp p (by kernel_rfl) (by kernel_rfl) (fun _ _ d _ _ h=>by cases d<;>exact h) p0 fun W hp=>?_
   repeat (first|(refine lx_one rfl ?_;(first|go_big_quiet_skip|(go_big_quiet_want;go_big_quiet_op;go_big_quiet_on));refine wpQuiet_nil ?_)|(refine lx_p3 ent_isBetween cN1 hp rfl rfl rfl (by rfl) ?_;intro W hp;simp only[pts])|(refine lx_p3 ent_isBetween cN2 hp rfl rfl rfl (by rfl) ?_;intro W hp;simp only[pts])|(refine lx_p3 ent_isBetween cN3 hp rfl rfl rfl (by rfl) ?_;intro W hp;simp only[pts])|(refine lx_act (by rfl) (by rfl) ?_;intro K hK;go_simp;refine hK _ _ ⟨⟨_,pA _ _ hp⟩,rfl⟩ ?_;clear hK K)|(refine lx_call2 ent_areSpots (areSpots_any [f.hb,f.ht,f.hs,f.hv] f.hsz _ 0 4 _ (pK _ (pA _ _ hp)) (szal _ _) (spRow4 (heap_al _ _)) (Nat.le_refl 4) (Nat.le_refl 4) (by omega)) rfl rfl (by rfl) ?_;intro W2 hb2;have hp:=pC _ _ (pA _ _ hp) hb2;refine⟨⟨⟨_,hp⟩,rfl⟩,?_⟩;simp only[k4,pts])|(refine lx_p2 ent_canTell cT1 hp rfl rfl (by rfl) ?_;intro W hp;simp only[pts])|(refine lx_p2 ent_canTell cT2 hp rfl rfl (by rfl) ?_;intro W hp;simp only[pts])|(refine lx_skip (by rfl) ?_;simp only[pts]))
   refine lx_done ?_
   go_wp2_with fail
   go_ret
   exact⟨rb (by simp[e1,k1,k2,k3,k4,k5,k6]),pB _ hp⟩
 ·have q0:(f.ord==0)=false:=beq_eq_false_iff_ne.2 e0
  have q1:(f.ord==1)=false:=beq_eq_false_iff_ne.2 e1
  go_enter Tryz.func49,Tryz.ntmps49
  go_wp2_with fail
  refine wp_region_lp p (by kernel_rfl) (by kernel_rfl) (fun _ _ d _ _ h=>by cases d<;>exact h) p0 fun W hp=>?_
  repeat (first|(refine lx_one rfl ?_;(first|go_big_quiet_skip|(go_big_quiet_want;go_big_quiet_op;go_big_quiet_on));refine wpQuiet_nil ?_)|(refine lx_p3 ent_isBetween cN1 hp rfl rfl rfl (by rfl) ?_;intro W hp;simp only[pts])|(refine lx_skip (by rfl) ?_;simp only[pts]))
  refine lx_done ?_
  go_wp2_with fail
  go_ret
  exact⟨rb (by simp[e0,e1]),pB _ hp⟩
open Go.Maps
theorem ent_top:∀ ag w,(callFunc 92 ag).run Tryz.prog w = .ok (.enter 92 ag) w:=enters_of Tryz.func92 (by kernel_rfl) rfl
theorem ent_isNewI:∀ ag w,(callFunc 126 ag).run Tryz.prog w = .ok (.enter 126 ag) w:=enters_of Tryz.func126 (by kernel_rfl) rfl
theorem ent_isNewN:∀ ag w,(callFunc 127 ag).run Tryz.prog w = .ok (.enter 127 ag) w:=enters_of Tryz.func127 (by kernel_rfl) rfl
theorem ent_isNewV:∀ ag w,(callFunc 117 ag).run Tryz.prog w = .ok (.enter 117 ag) w:=enters_of Tryz.func117 (by kernel_rfl) rfl
theorem ent_isNewName:∀ ag w,(callFunc 116 ag).run Tryz.prog w = .ok (.enter 116 ag) w:=enters_of Tryz.func116 (by kernel_rfl) rfl
theorem ent_isNewPart:∀ ag w,(callFunc 109 ag).run Tryz.prog w = .ok (.enter 109 ag) w:=enters_of Tryz.func109 (by kernel_rfl) rfl
theorem notin1 {a b:Nat} (h:a≠b):a∉[b]:=fun e=>h (List.mem_singleton.1 e)
abbrev nmK (a:Nat) (s:ByteArray):Value:=.agg #[.int .i64 (a:Int),.string s]
theorem isNewName_any (B gf go n cap g o gt ot m1 m2 m3 nn:Nat) (i:Int) (rl:Value) (dep:Nat->Int) (wh:Bool) (t:Tk) (x:Sv) (pc:Option Addr) (cc:Nat) (hs:Value->Prop) (b:Bool) (w:World)
  (hC:CkC w B gf (.slice (some ⟨go,0,none⟩) (n+1) cap) i rl m1 m2 m3 dep wh) (hX:ScC w g o go (n*8) x) (hgo:go<w.heap.size) (hT:TkC w gt ot t pc cc) (hgt:gt<w.heap.size) (hM:MHas w 205 m2 nn hs)
  (nB:B≠m2) (nG:go≠m2) (nT:gt≠m2) (hn:n<1000000000000) (hnn:nn<17592186044416) (hx:(x.at_:Int)<=9223372036854775807) (hl:t.name.size<=281474976710656) (hi:i64ok i) (hb:b=true↔¬ hs (nmK x.at_ t.name)) :
  Calls Tryz.prog 116 #[.pointer (some ⟨B,0,none⟩),.pointer (some ⟨gt,ot,none⟩)] w fun r w'=>r = .returned (.bool b)/\MHas w' 205 m2 (nn+1) (fun v=>v=nmK x.at_ t.name\/hs v)/\Kb [m2] w w':=by
 obtain⟨p,pB,pK,hN,f0,f1,f2,f3⟩:∃ p:World->Prop,(∀ W,p W->Kb [m2] w W) /\
   (∀ W,Kb [m2] w W->p W) /\
   Nonempty (CW p) /\
   (∀ θ:CW p,θ.w.cell? ⟨B,21,none⟩=some (.map (some m2))) /\
   (∀ θ:CW p,θ.w.cell? ⟨B,2,none⟩=some (.int .i64 i)) /\
   (∀ θ:CW p,θ.w.cell? ⟨go,n*8+1,none⟩=some (.int .i64 (x.at_:Int))) /\
   (∀ θ:CW p,θ.w.cell? ⟨gt,ot+1,none⟩=some (.string t.name)) :=
  ⟨Kb [m2] w,
   fun _ h=>h,
   fun _ h=>h,
   ⟨⟨_,Kb.refl _ _⟩⟩,
   fun θ=>(θ.h.cell hC.lt (notin1 nB)).trans hC.c21,
   fun θ=>(θ.h.cell hC.lt (notin1 nB)).trans hC.c2,
   fun θ=>(θ.h.cell hgo (notin1 nG)).trans hX.c1,
   fun θ=>(θ.h.cell hgt (notin1 nT)).trans hT.c1⟩
 have hml:=hM.lt
 go_enter Tryz.func116,Tryz.ntmps116
 go_wp2_with fail
 refine wp_region_pp p [0,1,2,3,4,5,6,11,12,13,14,16,17,18,19,7,8,9,10,15,20,21] (by kernel_rfl) (by kernel_rfl) (fun _ _ d _ _ h=>by cases d<;>exact h) (pK _ (Kb.refl _ _).drew) ?_
 simp only[List.filterMap_cons,List.filterMap_nil,List.getElem?_cons_zero,List.getElem?_cons_succ]
 repeat (refine lx_one rfl ?_;(first|go_big_quiet_skip|(go_big_quiet_want;go_big_quiet_op;go_big_quiet_on));refine wpQuiet_nil ?_)
 refine lx_call1 ent_top (top_any B go n cap _ hC.c0 hn) rfl (by rfl) ?_
 intro W1 hb1
 have k1:Kb [m2] w W1:=(Kb.refl _ _).drew.trans (Kb.of_below hb1)
 refine⟨⟨⟨_,pK _ k1⟩,rfl⟩,?_⟩
 simp only[pts]
 repeat (refine lx_one rfl ?_;(first|go_big_quiet_skip|(go_big_quiet_want;go_big_quiet_op;go_big_quiet_on));refine wpQuiet_nil ?_)
 refine lx_call3 ent_isNewN (isNewN_any m2 nn x.at_ i t.name hs b W1 (hM.same (hb1.block m2 hml)) hnn ⟨by omega,hx⟩ (by unfold maxLen;omega) hi hb) rfl rfl rfl (by rfl) ?_
 rintro W2 ⟨hM2,hg2⟩
 have k2:Kb [m2] w W2:=k1.trans (Kb.of_grown hg2 (List.mem_singleton.2 rfl))
 refine⟨⟨⟨_,pK _ k2⟩,rfl⟩,?_⟩
 simp only[pts]
 repeat (refine lx_one rfl ?_;(first|go_big_quiet_skip|(go_big_quiet_want;go_big_quiet_op;go_big_quiet_on));refine wpQuiet_nil ?_)
 refine lx_done ?_
 go_wp2_with fail
 go_ret
 exact⟨rfl,hM2,k2⟩
theorem notin2 {a b c:Nat} (h:a≠b) (h':a≠c):a∉[b,c]:=fun e=>by simp at e;omega
theorem isNewPart_any (B gf go n cap g o gt ot m1 m2 m3 n1 nn:Nat) (i:Int) (rl:Value) (dep:Nat->Int) (wh:Bool) (t:Tk) (x:Sv) (pc:Option Addr) (cc:Nat) (h1 hs:Value->Prop) (b1 b:Bool) (w:World)
  (hC:CkC w B gf (.slice (some ⟨go,0,none⟩) (n+1) cap) i rl m1 m2 m3 dep wh) (hX:ScC w g o go (n*8) x) (hgo:go<w.heap.size) (hT:TkC w gt ot t pc cc) (hgt:gt<w.heap.size) (hM1:MHas w 3 m1 n1 h1) (hM:MHas w 205 m2 nn hs)
  (nB:B≠m2) (nG:go≠m2) (nT:gt≠m2) (nB1:B≠m1) (nG1:go≠m1) (nT1:gt≠m1) (n12:m1≠m2) (hn:n<1000000000000) (hn1:n1<17592186044416) (hnn:nn<17592186044416) (hx:(x.at_:Int)<=9223372036854775807) (hk:TkOk t) (hi:i64ok i) (hb1:b1=true↔¬ h1 (.int .i64 t.id)) (hb:b=true↔¬ hs (nmK x.at_ t.name)) :
  Calls Tryz.prog 109 #[.pointer (some ⟨B,0,none⟩),.pointer (some ⟨gt,ot,none⟩)] w fun r w'=>r = .returned (.bool (bet t.id 0 65535&&b1&&b))/\Kb [m1,m2] w w'/\((bet t.id 0 65535&&b1&&b)=true->MHas w' 3 m1 (n1+1) (fun v=>v = .int .i64 t.id\/h1 v)/\MHas w' 205 m2 (nn+1) (fun v=>v=nmK x.at_ t.name\/hs v)):=by
 obtain⟨p,pB,pK,hN,f0,f1,f2,cN⟩:∃ p:World->Prop,(∀ W,p W->Kb [m1,m2] w W) /\
   (∀ W,Kb [m1,m2] w W->p W) /\
   Nonempty (CW p) /\
   (∀ θ:CW p,θ.w.cell? ⟨B,20,none⟩=some (.map (some m1))) /\
   (∀ θ:CW p,θ.w.cell? ⟨B,2,none⟩=some (.int .i64 i)) /\
   (∀ θ:CW p,θ.w.cell? ⟨gt,ot+2,none⟩=some (.int .i64 t.id)) /\
   (∀ W,p W->Calls Tryz.prog 74 #[.int .i64 t.id,.int .i64 0,.int .i64 65535] W fun e w'=>e = .returned (.bool (bet t.id 0 65535))/\w'=W) :=
  ⟨Kb [m1,m2] w,
   fun _ h=>h,
   fun _ h=>h,
   ⟨⟨_,Kb.refl _ _⟩⟩,
   fun θ=>(θ.h.cell hC.lt (notin2 nB1 nB)).trans hC.c20,
   fun θ=>(θ.h.cell hC.lt (notin2 nB1 nB)).trans hC.c2,
   fun θ=>(θ.h.cell hgt (notin2 nT1 nT)).trans hT.c2,
   fun W _=>isBetween_any _ _ _ W⟩
 have cI:=isNewI_any m1 n1 t.id i h1 b1 w.drew hM1 hn1 hk.id hi hb1
 clear hb1
 replace hb:Hid (b=true↔¬ hs (nmK x.at_ t.name)):=⟨hb⟩
 rcases ch2 (bet t.id 0 65535) b1 with e0|⟨e0,e1⟩|⟨e0,e1⟩
 ·rw[e0] at cN ⊢
  go_enter Tryz.func109,Tryz.ntmps109
  go_wp2_with fail
  refine wp_region_lx p (by kernel_rfl) (by kernel_rfl) (fun _ _ d _ _ h=>by cases d<;>exact h) (pK _ (Kb.refl _ _).drew) ?_
  repeat (first|(refine lx_one rfl ?_;(first|go_big_quiet_skip|(go_big_quiet_want;go_big_quiet_op;go_big_quiet_on));refine wpQuiet_nil ?_)|(refine lx_skip (by rfl) ?_;simp only[pts]))
  refine lx_call3 ent_isBetween (cN _ (pK _ (Kb.refl _ _).drew)) rfl rfl rfl (by rfl) ?_
  rintro _ rfl
  refine⟨⟨⟨_,pK _ (Kb.refl _ _).drew⟩,rfl⟩,?_⟩
  simp only[pts]
  repeat (first|(refine lx_one rfl ?_;(first|go_big_quiet_skip|(go_big_quiet_want;go_big_quiet_op;go_big_quiet_on));refine wpQuiet_nil ?_)|(refine lx_skip (by rfl) ?_;simp only[pts]))
  refine lx_done ?_
  go_wp2_with fail
  go_ret
  exact⟨rfl,(Kb.refl _ _).drew,fun h=>by cases h⟩
 ·rw[e0] at cN ⊢
  rw[e1] at cI ⊢
  go_enter Tryz.func109,Tryz.ntmps109
  go_wp2_with fail
  refine wp_region_lx p (by kernel_rfl) (by kernel_rfl) (fun _ _ d _ _ h=>by cases d<;>exact h) (pK _ (Kb.refl _ _).drew) ?_
  repeat (first|(refine lx_one rfl ?_;(first|go_big_quiet_skip|(go_big_quiet_want;go_big_quiet_op;go_big_quiet_on));refine wpQuiet_nil ?_)|(refine lx_skip (by rfl) ?_;simp only[pts]))
  refine lx_call3 ent_isBetween (cN _ (pK _ (Kb.refl _ _).drew)) rfl rfl rfl (by rfl) ?_
  rintro _ rfl
  refine⟨⟨⟨_,pK _ (Kb.refl _ _).drew⟩,rfl⟩,?_⟩
  simp only[pts]
  repeat (first|(refine lx_one rfl ?_;(first|go_big_quiet_skip|(go_big_quiet_want;go_big_quiet_op;go_big_quiet_on));refine wpQuiet_nil ?_)|(refine lx_skip (by rfl) ?_;simp only[pts]))
  refine lx_call3 ent_isNewI cI rfl rfl rfl (by rfl) ?_
  rintro W1 ⟨hA,hg1⟩
  have k1:Kb [m1,m2] w W1:=(Kb.refl _ _).drew.trans (Kb.of_grown hg1 (by simp))
  refine⟨⟨⟨_,pK _ k1⟩,rfl⟩,?_⟩
  simp only[pts]
  repeat (first|(refine lx_one rfl ?_;(first|go_big_quiet_skip|(go_big_quiet_want;go_big_quiet_op;go_big_quiet_on));refine wpQuiet_nil ?_)|(refine lx_skip (by rfl) ?_;simp only[pts]))
  refine lx_done ?_
  go_wp2_with fail
  go_ret
  exact⟨rfl,k1,fun h=>by cases h⟩
 ·rw[e0] at cN ⊢
  rw[e1] at cI ⊢
  go_enter Tryz.func109,Tryz.ntmps109
  go_wp2_with fail
  refine wp_region_lx p (by kernel_rfl) (by kernel_rfl) (fun _ _ d _ _ h=>by cases d<;>exact h) (pK _ (Kb.refl _ _).drew) ?_
  repeat (first|(refine lx_one rfl ?_;(first|go_big_quiet_skip|(go_big_quiet_want;go_big_quiet_op;go_big_quiet_on));refine wpQuiet_nil ?_)|(refine lx_skip (by rfl) ?_;simp only[pts]))
  refine lx_call3 ent_isBetween (cN _ (pK _ (Kb.refl _ _).drew)) rfl rfl rfl (by rfl) ?_
  rintro _ rfl
  refine⟨⟨⟨_,pK _ (Kb.refl _ _).drew⟩,rfl⟩,?_⟩
  simp only[pts]
  repeat (first|(refine lx_one rfl ?_;(first|go_big_quiet_skip|(go_big_quiet_want;go_big_quiet_op;go_big_quiet_on));refine wpQuiet_nil ?_)|(refine lx_skip (by rfl) ?_;simp only[pts]))
  refine lx_call3 ent_isNewI cI rfl rfl rfl (by rfl) ?_
  rintro W1 ⟨hA,hg1⟩
  have k1:Kb [m1,m2] w W1:=(Kb.refl _ _).drew.trans (Kb.of_grown hg1 (by simp))
  refine⟨⟨⟨_,pK _ k1⟩,rfl⟩,?_⟩
  simp only[pts]
  repeat (first|(refine lx_one rfl ?_;(first|go_big_quiet_skip|(go_big_quiet_want;go_big_quiet_op;go_big_quiet_on));refine wpQuiet_nil ?_)|(refine lx_skip (by rfl) ?_;simp only[pts]))
  have q:∀ k,k<w.heap.size->k≠m1->W1.heap[k]?=w.heap[k]?:=fun k hk hne=>hg1.block k hk (by simpa using hne)
  refine lx_call2 ent_isNewName (isNewName_any B gf go n cap g o gt ot m1 m2 m3 nn i rl dep wh t x pc cc hs b W1 (hC.same hg1.size (q B hC.lt nB1)) (hX.same (q go hgo nG1)) (Nat.lt_of_lt_of_le hgo hg1.size) (hT.same (q gt hgt nT1)) (Nat.lt_of_lt_of_le hgt hg1.size) (hM.same (q m2 hM.lt (Ne.symm n12))) nB nG nT hn hnn hx hk.name hi hb.out) rfl rfl (by rfl) ?_
  rintro W2 ⟨hE,hk2⟩
  have k2:Kb [m1,m2] w W2:=k1.trans (hk2.mono (by simp))
  have hA2:=hA.same (hk2.block m1 hA.lt (notin1 n12))
  refine⟨⟨⟨_,pK _ k2⟩,rfl⟩,?_⟩
  simp only[pts]
  repeat (first|(refine lx_one rfl ?_;(first|go_big_quiet_skip|(go_big_quiet_want;go_big_quiet_op;go_big_quiet_on));refine wpQuiet_nil ?_)|(refine lx_skip (by rfl) ?_;simp only[pts]))
  refine lx_done ?_
  go_wp2_with fail
  go_ret
  exact⟨rfl,k2,fun _=>⟨hA2,hE⟩⟩
theorem op_cases (op:Int):(op<0\/15<op)\/op=0\/op=1\/op=2\/op=3\/op=4\/op=5\/op=6\/op=7\/op=8\/op=9\/op=10\/op=11\/op=12\/op=13\/op=14\/op=15:=by omega
theorem endOf_any (op:Int) (w:World) (h:-100<=op/\op<=100):Calls Tryz.prog 118 #[.int .i64 op] w fun r w'=>r = .returned (.int .i64 (op+1))/\w'=w:=by
 have hw:IntKind.i64.wrap (op+1)=op+1:=by rw[IntKind.wrap_i64];omega
 go_enter Tryz.func118,Tryz.ntmps118
 go_wp2_with fail
 go_ret
 exact⟨rfl,rfl⟩
theorem begins_any (op:Int) (w:World) (h:0<=op/\op<=15):Calls Tryz.prog 93 #[.int .i64 op] w fun r w'=>r = .returned (.bool (bgO op))/\w'=w:=by
 rcases op_cases op with h' | rfl|rfl|rfl|rfl|rfl|rfl|rfl|rfl|rfl|rfl|rfl|rfl|rfl|rfl|rfl|rfl
 ·omega
 all_goals
  go_enter Tryz.func93,Tryz.ntmps93
  go_wp2_with fail
  go_ret
  exact⟨rfl,rfl⟩
theorem ends_any (op:Int) (w:World) (h:0<=op/\op<=15):Calls Tryz.prog 89 #[.int .i64 op] w fun r w'=>r = .returned (.bool (edO op))/\w'=w:=by
 rcases op_cases op with h' | rfl|rfl|rfl|rfl|rfl|rfl|rfl|rfl|rfl|rfl|rfl|rfl|rfl|rfl|rfl|rfl
 ·omega
 all_goals
  go_enter Tryz.func89,Tryz.ntmps89
  go_wp2_with fail
  go_ret
  exact⟨rfl,rfl⟩
theorem beqN {a b:Int} (h:a≠b):(a==b)=false:=beq_eq_false_iff_ne.2 h
theorem beqD (a b:Int):(a==b)=decide (a=b):=by rw[Bool.eq_iff_iff];simp
theorem isPart_any (op:Int) (w:World):Calls Tryz.prog 119 #[.int .i64 op] w fun r w'=>r = .returned (.bool (ptO op))/\w'=w:=by
 unfold ptO
 by_cases h2:op=2
 ·subst h2
  go_enter Tryz.func119,Tryz.ntmps119
  go_wp2_with fail
  go_ret
  exact⟨rfl,rfl⟩
 have d2:=beqN h2
 by_cases h4:op=4
 ·subst h4
  go_enter Tryz.func119,Tryz.ntmps119
  go_wp2_with fail
  go_ret
  exact⟨rfl,rfl⟩
 have d4:=beqN h4
 go_enter Tryz.func119,Tryz.ntmps119
 go_wp2_with fail
 go_ret
 exact⟨rb (by rw[Bool.eq_iff_iff];simp[h2,h4]),rfl⟩
theorem isType_any (op:Int) (w:World):Calls Tryz.prog 120 #[.int .i64 op] w fun r w'=>r = .returned (.bool (tyO op))/\w'=w:=by
 unfold tyO
 by_cases h14:op=14
 ·subst h14
  go_enter Tryz.func120,Tryz.ntmps120
  go_wp2_with fail
  go_ret
  exact⟨rfl,rfl⟩
 have d14:=beqN h14
 by_cases h10:op=10
 ·subst h10
  go_enter Tryz.func120,Tryz.ntmps120
  go_wp2_with fail
  go_ret
  exact⟨rfl,rfl⟩
 have d10:=beqN h10
 by_cases h12:op=12
 ·subst h12
  go_enter Tryz.func120,Tryz.ntmps120
  go_wp2_with fail
  go_ret
  exact⟨rfl,rfl⟩
 have d12:=beqN h12
 go_enter Tryz.func120,Tryz.ntmps120
 go_wp2_with fail
 go_ret
 exact⟨rb (by rw[Bool.eq_iff_iff];simp[h14,h10,h12]),rfl⟩
end Go.Proofs.YtjlbcdnkglaheaaGreatDoor

import Derived.Test.YtjnafpefolgcoaaGreatDoorK06
import Derived.Deep.CutBlock
namespace Go.Proofs.YtjnafpefolgcoaaGreatDoor
set_option maxRecDepth 1000000
set_option maxHeartbeats 16000000
open Go.ChangeShapes Go.WideShapes Go.ChangeAt Go.RowKit
theorem ent_num12:∀ ag w,(callFunc 40 ag).run Tryz.prog w = .ok (.enter 40 ag) w:=enters_of Tryz.func40 (by kernel_rfl) rfl
theorem ent_dec12:∀ ag w,(callFunc 41 ag).run Tryz.prog w = .ok (.enter 41 ag) w:=enters_of Tryz.func41 (by kernel_rfl) rfl
theorem shD_size {n:Nat} (h:n<18446744073709551616):(shD n).size<=20:=by
 have h1:=nd20 h
 have h2:=Lib.decDigits_length n
 have:(shD n).size=(Lib.decDigits n).length:=by unfold shD;simp[ByteArray.size]
 omega
theorem shI_size {n:Int} (h:0<=n/\n<=65535):(shSp++shI n).size<=21:=by
 have:=shD_size (n:=n.toNat) (by omega)
 rw[ByteArray.size_append]
 show 1+(shD n.toNat).size<=21
 omega
theorem shV_size {n:Int} (h:0<=n/\n<18446744073709551616):(shSp++shI n).size<=21:=by
 have:=shD_size (n:=n.toNat) (by omega)
 rw[ByteArray.size_append]
 show 1+(shD n.toNat).size<=21
 omega
abbrev shPs:Array Value:=#[.string ⟨#[32,114,101,113,117,105,114,101,100]⟩,.string ⟨#[32,111,112,116,105,111,110,97,108]⟩,.string ⟨#[32,99,111,110,115,116,97,110,116]⟩]
theorem shown_w (t:Tk) (pc:Option Addr) (cc:Nat) (w:World):∃ W2,(w.alloc (.cells #[.int .i64 t.op,.string t.name,.int .i64 t.id,.int .i64 t.off,.int .i64 t.siz,.int .i64 t.since,.int .i64 t.prim,.int .i64 t.len,.int .i64 t.pres,.int .u64 t.nul,.int .u64 t.lo,.int .u64 t.hi,.slice pc t.cst.length cc,.int .u64 t.val,.int .i64 t.blk,.int .i64 t.full,.int .i64 t.a.p,.int .i64 t.a.o,.int .i64 t.b.p,.int .i64 t.b.o,.int .i64 t.pair] 53)).alloc (.cells shPs 74)=W2/\Below w.heap.size w W2 /\
  ∀ V,Below W2.heap.size W2 V->Below w.heap.size w V/\V.heap[w.heap.size]?=some (tkO t pc cc)/\V.heap[w.heap.size+1]?=some (.cells shPs 74):=by
 refine⟨_,rfl,two_b _ _ _,fun V h=>⟨(two_b _ _ _).trans (h.mono (two_b _ _ _).size),(h.block _ ?_).trans (two_1 _ _ _),(h.block _ ?_).trans (two_2 _ _ _)⟩⟩
 ·simp;omega
 ·simp
theorem shPs_at {p:Int} (h:0<=p/\p<=2) {V:World} {g:Nat} (hV:V.heap[g]?=some (.cells shPs 74)):V.cell? ⟨g,p.toNat,none⟩=some (.string (shSp++shP p)):=by
 rw[cell_at hV]
 have:p=0\/p=1\/p=2:=by omega
 rcases this with rfl|rfl|rfl<;>rfl
theorem shown_0 (t:Tk) (pc:Option Addr) (cc:Nat) (w:World) (hop:t.op=0) (hN:ShN t) (hnm:t.name.size<=140737488355328) (_hv:0<=t.val/\t.val<18446744073709551616) :
  Calls Tryz.prog 19 #[tkV t pc cc] w fun e w'=>e = .returned (.string (shJ (shT pnZ t)))/\Below w.heap.size w w':=by
 have hT:shT pnZ t=[shMsg,t.name,shI t.id,shI t.since,shI t.blk]:=by unfold shT;rw[if_pos hop]
 rw[hT,shJ_5]
 clear hT
 obtain⟨W2,hW,hb2,hF⟩:=shown_w t pc cc w
 have B2:Hid (Below w.heap.size w W2):=⟨hb2⟩
 have G2:=hF W2 (Below.refl _ _)
 have z0:W2.cell? ⟨w.heap.size,0,none⟩=some (.int .i64 t.op):=cell_at G2.2.1 0
 have z1:W2.cell? ⟨w.heap.size,1,none⟩=some (.string t.name):=cell_at G2.2.1 1
 have z6:W2.cell? ⟨w.heap.size,6,none⟩=some (.int .i64 t.prim):=cell_at G2.2.1 6
 have b_id:=hN.id (by omega)
 have sz_id:=shI_size b_id
 have b_since:=hN.since (by omega)
 have sz_since:=shI_size b_since
 have b_blk:=hN.blk (by omega)
 have sz_blk:=shI_size b_blk
 have c_id:Hid (∀ V,Below W2.heap.size W2 V->Calls Tryz.prog 40 #[.int .i64 t.id] V fun e w'=>e = .returned (.string (shSp++shI t.id))/\Below W2.heap.size W2 w'):=⟨fun V hV=>(num12 t.id b_id.1 b_id.2 V).mono fun e w' h=>⟨h.1,hV.trans (h.2.mono hV.size)⟩⟩
 have c_since:Hid (∀ V,Below W2.heap.size W2 V->Calls Tryz.prog 40 #[.int .i64 t.since] V fun e w'=>e = .returned (.string (shSp++shI t.since))/\Below W2.heap.size W2 w'):=⟨fun V hV=>(num12 t.since b_since.1 b_since.2 V).mono fun e w' h=>⟨h.1,hV.trans (h.2.mono hV.size)⟩⟩
 have c_blk:Hid (∀ V,Below W2.heap.size W2 V->Calls Tryz.prog 40 #[.int .i64 t.blk] V fun e w'=>e = .returned (.string (shSp++shI t.blk))/\Below W2.heap.size W2 w'):=⟨fun V hV=>(num12 t.blk b_blk.1 b_blk.2 V).mono fun e w' h=>⟨h.1,hV.trans (h.2.mono hV.size)⟩⟩
 have cN:=refNameOf12 t.prim W2
 have hP:Hid (∀ V,Below W2.heap.size W2 V->V.cell? ⟨w.heap.size,0,none⟩=some (.int .i64 t.op)/\∃ p:World->Prop,p V.drew/\Nonempty (CW p)/\(∀ X,p X->Hid (Below w.heap.size w X))/\(∀ θ:CW p,θ.w.cell? ⟨w.heap.size,2,none⟩=some (.int .i64 t.id))/\(∀ θ:CW p,θ.w.cell? ⟨w.heap.size,5,none⟩=some (.int .i64 t.since))/\(∀ θ:CW p,θ.w.cell? ⟨w.heap.size,14,none⟩=some (.int .i64 t.blk))/\(Hid (∀ V,p V->Calls Tryz.prog 40 #[.int .i64 t.id] V fun e w'=>e = .returned (.string (shSp++shI t.id))/\p w'))/\(Hid (∀ V,p V->Calls Tryz.prog 40 #[.int .i64 t.since] V fun e w'=>e = .returned (.string (shSp++shI t.since))/\p w'))/\(Hid (∀ V,p V->Calls Tryz.prog 40 #[.int .i64 t.blk] V fun e w'=>e = .returned (.string (shSp++shI t.blk))/\p w'))):=⟨fun V hV =>
  ⟨cell_at (hF V hV).2.1 0,fun X=>Below W2.heap.size W2 X,hV.drew,⟨⟨V,hV⟩⟩,fun X h=>⟨(hF X h).1⟩,fun θ=>cell_at (hF θ.w θ.h).2.1 2,fun θ=>cell_at (hF θ.w θ.h).2.1 5,fun θ=>cell_at (hF θ.w θ.h).2.1 14,⟨c_id.out⟩,⟨c_since.out⟩,⟨c_blk.out⟩⟩⟩
 clear hF G2 hN _hv hb2 c_id c_since c_blk
 obtain⟨N,hNe⟩:∃ N,shSp++t.name=N:=⟨_,rfl⟩
 have sN:N.size=1+t.name.size:=by rw[<- hNe,ByteArray.size_append];rfl
 have oN:¬ 9223372036854775807<1+t.name.size:=by omega
 generalize shSp++shI t.id=D_id at *
 generalize shSp++shI t.since=D_since at *
 generalize shSp++shI t.blk=D_blk at *
 generalize pnZ t.prim=D_prim at cN
 have u0:¬ 9223372036854775807<7+N.size:=by omega
 have u1:¬ 9223372036854775807<7+N.size+D_id.size:=by omega
 have u2:¬ 9223372036854775807<7+N.size+D_id.size+D_since.size:=by omega
 have u3:¬ 9223372036854775807<7+N.size+D_id.size+D_since.size+D_blk.size:=by omega
 have hop':t.op=0:=hop
 rw[hop] at z0 hW
 simp only[shPs] at hW
 go_enter Tryz.func19,Tryz.ntmps19
 go_upto_region 6 with (go_at_call 39;refine cN.mono ?_;rintro _ w1 ⟨rfl,hb3⟩;obtain⟨y0,p,p0,pN,pE,x_id,x_since,x_blk,k_id,k_since,k_blk⟩:=hP.out w1 hb3;rw[hop] at y0)
 refine wp_region_pp p [0,1,2,3,6,7,10,11,4,5,8,9,12,13,14] (by kernel_rfl) (by kernel_rfl) (fun _ _ d _ _ h=>by cases d<;>exact h) p0 ?_
 simp only[List.filterMap_cons,List.filterMap_nil,List.getElem?_cons_zero,List.getElem?_cons_succ]
 have hp:=p0
 generalize w1.drew=W at hp ⊢
 repeat (first
  | (guard_target =~ Lx _ _ _ _ (Oper.mk _ (Op.call { callee:=Callee.value (Operand.func 40),args:=_,argTypes:=_ }) _ _ _ _::_) _ _;(first|refine lx_p1 ent_num12 k_id.out hp rfl (by rfl) ?_|refine lx_p1 ent_num12 k_since.out hp rfl (by rfl) ?_|refine lx_p1 ent_num12 k_blk.out hp rfl (by rfl) ?_);clear hp;intro W hp;simp only[pts])
  | (refine lx_one rfl ?_;(first|go_big_quiet_skip|(go_big_quiet_want;go_big_quiet_op;go_big_quiet_on));refine wpQuiet_nil ?_))
 refine lx_done ?_
 have hE:=pE _ hp
 go_wp2_with fail
 go_ret
 exact⟨by subst hNe;rfl,hE.out⟩
theorem shown_2 (t:Tk) (pc:Option Addr) (cc:Nat) (w:World) (hop:t.op=2) (hN:ShN t) (hnm:t.name.size<=140737488355328) (_hv:0<=t.val/\t.val<18446744073709551616) :
  Calls Tryz.prog 19 #[tkV t pc cc] w fun e w'=>e = .returned (.string (shJ (shT pnZ t)))/\Below w.heap.size w w':=by
 have hT:shT pnZ t=[shFld,t.name,shI t.id,shI t.since,shI t.off,shI t.siz,shP t.pres]:=by unfold shT;rw[if_neg (by omega),if_pos hop]
 rw[hT,shJ_7]
 clear hT
 obtain⟨W2,hW,hb2,hF⟩:=shown_w t pc cc w
 have B2:Hid (Below w.heap.size w W2):=⟨hb2⟩
 have G2:=hF W2 (Below.refl _ _)
 have z0:W2.cell? ⟨w.heap.size,0,none⟩=some (.int .i64 t.op):=cell_at G2.2.1 0
 have z1:W2.cell? ⟨w.heap.size,1,none⟩=some (.string t.name):=cell_at G2.2.1 1
 have z6:W2.cell? ⟨w.heap.size,6,none⟩=some (.int .i64 t.prim):=cell_at G2.2.1 6
 have b_id:=hN.id (by omega)
 have sz_id:=shI_size b_id
 have b_since:=hN.since (by omega)
 have sz_since:=shI_size b_since
 have b_off:=hN.off (by omega)
 have sz_off:=shI_size b_off
 have b_siz:=hN.siz (by omega)
 have sz_siz:=shI_size b_siz
 have b_pres:=hN.pres (by omega)
 have sz_pres:(shSp++shP t.pres).size<=9:=by rw[ByteArray.size_append];have:=shP_size t.pres;show 1+(shP t.pres).size<=9;omega
 have c_id:Hid (∀ V,Below W2.heap.size W2 V->Calls Tryz.prog 40 #[.int .i64 t.id] V fun e w'=>e = .returned (.string (shSp++shI t.id))/\Below W2.heap.size W2 w'):=⟨fun V hV=>(num12 t.id b_id.1 b_id.2 V).mono fun e w' h=>⟨h.1,hV.trans (h.2.mono hV.size)⟩⟩
 have c_since:Hid (∀ V,Below W2.heap.size W2 V->Calls Tryz.prog 40 #[.int .i64 t.since] V fun e w'=>e = .returned (.string (shSp++shI t.since))/\Below W2.heap.size W2 w'):=⟨fun V hV=>(num12 t.since b_since.1 b_since.2 V).mono fun e w' h=>⟨h.1,hV.trans (h.2.mono hV.size)⟩⟩
 have c_off:Hid (∀ V,Below W2.heap.size W2 V->Calls Tryz.prog 40 #[.int .i64 t.off] V fun e w'=>e = .returned (.string (shSp++shI t.off))/\Below W2.heap.size W2 w'):=⟨fun V hV=>(num12 t.off b_off.1 b_off.2 V).mono fun e w' h=>⟨h.1,hV.trans (h.2.mono hV.size)⟩⟩
 have c_siz:Hid (∀ V,Below W2.heap.size W2 V->Calls Tryz.prog 40 #[.int .i64 t.siz] V fun e w'=>e = .returned (.string (shSp++shI t.siz))/\Below W2.heap.size W2 w'):=⟨fun V hV=>(num12 t.siz b_siz.1 b_siz.2 V).mono fun e w' h=>⟨h.1,hV.trans (h.2.mono hV.size)⟩⟩
 have cN:=refNameOf12 t.prim W2
 have hP:Hid (∀ V,Below W2.heap.size W2 V->V.cell? ⟨w.heap.size,0,none⟩=some (.int .i64 t.op)/\∃ p:World->Prop,p V.drew/\Nonempty (CW p)/\(∀ X,p X->Hid (Below w.heap.size w X))/\(∀ θ:CW p,θ.w.cell? ⟨w.heap.size,2,none⟩=some (.int .i64 t.id))/\(∀ θ:CW p,θ.w.cell? ⟨w.heap.size,5,none⟩=some (.int .i64 t.since))/\(∀ θ:CW p,θ.w.cell? ⟨w.heap.size,3,none⟩=some (.int .i64 t.off))/\(∀ θ:CW p,θ.w.cell? ⟨w.heap.size,4,none⟩=some (.int .i64 t.siz))/\(∀ θ:CW p,θ.w.cell? ⟨w.heap.size,8,none⟩=some (.int .i64 t.pres))/\(∀ θ:CW p,θ.w.cell? ⟨w.heap.size+1,t.pres.toNat,none⟩=some (.string (shSp++shP t.pres)))/\(Hid (∀ V,p V->Calls Tryz.prog 40 #[.int .i64 t.id] V fun e w'=>e = .returned (.string (shSp++shI t.id))/\p w'))/\(Hid (∀ V,p V->Calls Tryz.prog 40 #[.int .i64 t.since] V fun e w'=>e = .returned (.string (shSp++shI t.since))/\p w'))/\(Hid (∀ V,p V->Calls Tryz.prog 40 #[.int .i64 t.off] V fun e w'=>e = .returned (.string (shSp++shI t.off))/\p w'))/\(Hid (∀ V,p V->Calls Tryz.prog 40 #[.int .i64 t.siz] V fun e w'=>e = .returned (.string (shSp++shI t.siz))/\p w'))):=⟨fun V hV =>
  ⟨cell_at (hF V hV).2.1 0,fun X=>Below W2.heap.size W2 X,hV.drew,⟨⟨V,hV⟩⟩,fun X h=>⟨(hF X h).1⟩,fun θ=>cell_at (hF θ.w θ.h).2.1 2,fun θ=>cell_at (hF θ.w θ.h).2.1 5,fun θ=>cell_at (hF θ.w θ.h).2.1 3,fun θ=>cell_at (hF θ.w θ.h).2.1 4,fun θ=>cell_at (hF θ.w θ.h).2.1 8,fun θ=>shPs_at b_pres (hF θ.w θ.h).2.2,⟨c_id.out⟩,⟨c_since.out⟩,⟨c_off.out⟩,⟨c_siz.out⟩⟩⟩
 clear hF G2 hN _hv hb2 c_id c_since c_off c_siz
 obtain⟨N,hNe⟩:∃ N,shSp++t.name=N:=⟨_,rfl⟩
 have sN:N.size=1+t.name.size:=by rw[<- hNe,ByteArray.size_append];rfl
 have oN:¬ 9223372036854775807<1+t.name.size:=by omega
 generalize shSp++shI t.id=D_id at *
 generalize shSp++shI t.since=D_since at *
 generalize shSp++shI t.off=D_off at *
 generalize shSp++shI t.siz=D_siz at *
 generalize shSp++shP t.pres=D_pres at *
 generalize pnZ t.prim=D_prim at cN
 have u0:¬ 9223372036854775807<5+N.size:=by omega
 have u1:¬ 9223372036854775807<5+N.size+D_id.size:=by omega
 have u2:¬ 9223372036854775807<5+N.size+D_id.size+D_since.size:=by omega
 have u3:¬ 9223372036854775807<5+N.size+D_id.size+D_since.size+D_off.size:=by omega
 have u4:¬ 9223372036854775807<5+N.size+D_id.size+D_since.size+D_off.size+D_siz.size:=by omega
 have u5:¬ 9223372036854775807<5+N.size+D_id.size+D_since.size+D_off.size+D_siz.size+D_pres.size:=by omega
 have hop':t.op=2:=hop
 rw[hop] at z0 hW
 simp only[shPs] at hW
 go_enter Tryz.func19,Tryz.ntmps19
 go_upto_region 8 with (go_at_call 39;refine cN.mono ?_;rintro _ w1 ⟨rfl,hb3⟩;obtain⟨y0,p,p0,pN,pE,x_id,x_since,x_off,x_siz,x_pres,x_ps,k_id,k_since,k_off,k_siz⟩:=hP.out w1 hb3;rw[hop] at y0)
 obtain⟨P,hPr⟩:∃ P:Nat,t.pres=P:=⟨t.pres.toNat,by omega⟩
 have hP3:(P:Int)<3:=by omega
 have hP3n:P<3:=by omega
 rw[hPr] at x_pres x_ps
 rw[Int.toNat_natCast] at x_ps
 clear hPr b_pres
 refine wp_region_pp p [0,1,2,3,6,7,10,11,14,15,18,19,20,21,4,5,8,9,12,13,16,17,22,23] (by kernel_rfl) (by kernel_rfl) (fun _ _ d _ _ h=>by cases d<;>exact h) p0 ?_
 simp only[List.filterMap_cons,List.filterMap_nil,List.getElem?_cons_zero,List.getElem?_cons_succ]
 have hp:=p0
 generalize w1.drew=W at hp ⊢
 repeat (first
  | (guard_target =~ Lx _ _ _ _ (Oper.mk _ (Op.call { callee:=Callee.value (Operand.func 40),args:=_,argTypes:=_ }) _ _ _ _::_) _ _;(first|refine lx_p1 ent_num12 k_id.out hp rfl (by rfl) ?_|refine lx_p1 ent_num12 k_since.out hp rfl (by rfl) ?_|refine lx_p1 ent_num12 k_off.out hp rfl (by rfl) ?_|refine lx_p1 ent_num12 k_siz.out hp rfl (by rfl) ?_);clear hp;intro W hp;simp only[pts])
  | (refine lx_one rfl ?_;(first|go_big_quiet_skip|(go_big_quiet_want;go_big_quiet_op;go_big_quiet_on));refine wpQuiet_nil ?_))
 refine lx_done ?_
 have hE:=pE _ hp
 go_wp2_with fail
 go_ret
 exact⟨by subst hNe;rfl,hE.out⟩
theorem shown_4 (t:Tk) (pc:Option Addr) (cc:Nat) (w:World) (hop:t.op=4) (hN:ShN t) (hnm:t.name.size<=140737488355328) (_hv:0<=t.val/\t.val<18446744073709551616) :
  Calls Tryz.prog 19 #[tkV t pc cc] w fun e w'=>e = .returned (.string (shJ (shT pnZ t)))/\Below w.heap.size w w':=by
 have hT:shT pnZ t=[shGrp,t.name,shI t.id,shI t.since,shI t.siz,shI t.blk]:=by unfold shT;rw[if_neg (by omega),if_neg (by omega),if_pos hop]
 rw[hT,shJ_6]
 clear hT
 obtain⟨W2,hW,hb2,hF⟩:=shown_w t pc cc w
 have B2:Hid (Below w.heap.size w W2):=⟨hb2⟩
 have G2:=hF W2 (Below.refl _ _)
 have z0:W2.cell? ⟨w.heap.size,0,none⟩=some (.int .i64 t.op):=cell_at G2.2.1 0
 have z1:W2.cell? ⟨w.heap.size,1,none⟩=some (.string t.name):=cell_at G2.2.1 1
 have z6:W2.cell? ⟨w.heap.size,6,none⟩=some (.int .i64 t.prim):=cell_at G2.2.1 6
 have b_id:=hN.id (by omega)
 have sz_id:=shI_size b_id
 have b_since:=hN.since (by omega)
 have sz_since:=shI_size b_since
 have b_siz:=hN.siz (by omega)
 have sz_siz:=shI_size b_siz
 have b_blk:=hN.blk (by omega)
 have sz_blk:=shI_size b_blk
 have c_id:Hid (∀ V,Below W2.heap.size W2 V->Calls Tryz.prog 40 #[.int .i64 t.id] V fun e w'=>e = .returned (.string (shSp++shI t.id))/\Below W2.heap.size W2 w'):=⟨fun V hV=>(num12 t.id b_id.1 b_id.2 V).mono fun e w' h=>⟨h.1,hV.trans (h.2.mono hV.size)⟩⟩
 have c_since:Hid (∀ V,Below W2.heap.size W2 V->Calls Tryz.prog 40 #[.int .i64 t.since] V fun e w'=>e = .returned (.string (shSp++shI t.since))/\Below W2.heap.size W2 w'):=⟨fun V hV=>(num12 t.since b_since.1 b_since.2 V).mono fun e w' h=>⟨h.1,hV.trans (h.2.mono hV.size)⟩⟩
 have c_siz:Hid (∀ V,Below W2.heap.size W2 V->Calls Tryz.prog 40 #[.int .i64 t.siz] V fun e w'=>e = .returned (.string (shSp++shI t.siz))/\Below W2.heap.size W2 w'):=⟨fun V hV=>(num12 t.siz b_siz.1 b_siz.2 V).mono fun e w' h=>⟨h.1,hV.trans (h.2.mono hV.size)⟩⟩
 have c_blk:Hid (∀ V,Below W2.heap.size W2 V->Calls Tryz.prog 40 #[.int .i64 t.blk] V fun e w'=>e = .returned (.string (shSp++shI t.blk))/\Below W2.heap.size W2 w'):=⟨fun V hV=>(num12 t.blk b_blk.1 b_blk.2 V).mono fun e w' h=>⟨h.1,hV.trans (h.2.mono hV.size)⟩⟩
 have cN:=refNameOf12 t.prim W2
 have hP:Hid (∀ V,Below W2.heap.size W2 V->V.cell? ⟨w.heap.size,0,none⟩=some (.int .i64 t.op)/\∃ p:World->Prop,p V.drew/\Nonempty (CW p)/\(∀ X,p X->Hid (Below w.heap.size w X))/\(∀ θ:CW p,θ.w.cell? ⟨w.heap.size,2,none⟩=some (.int .i64 t.id))/\(∀ θ:CW p,θ.w.cell? ⟨w.heap.size,5,none⟩=some (.int .i64 t.since))/\(∀ θ:CW p,θ.w.cell? ⟨w.heap.size,4,none⟩=some (.int .i64 t.siz))/\(∀ θ:CW p,θ.w.cell? ⟨w.heap.size,14,none⟩=some (.int .i64 t.blk))/\(Hid (∀ V,p V->Calls Tryz.prog 40 #[.int .i64 t.id] V fun e w'=>e = .returned (.string (shSp++shI t.id))/\p w'))/\(Hid (∀ V,p V->Calls Tryz.prog 40 #[.int .i64 t.since] V fun e w'=>e = .returned (.string (shSp++shI t.since))/\p w'))/\(Hid (∀ V,p V->Calls Tryz.prog 40 #[.int .i64 t.siz] V fun e w'=>e = .returned (.string (shSp++shI t.siz))/\p w'))/\(Hid (∀ V,p V->Calls Tryz.prog 40 #[.int .i64 t.blk] V fun e w'=>e = .returned (.string (shSp++shI t.blk))/\p w'))):=⟨fun V hV =>
  ⟨cell_at (hF V hV).2.1 0,fun X=>Below W2.heap.size W2 X,hV.drew,⟨⟨V,hV⟩⟩,fun X h=>⟨(hF X h).1⟩,fun θ=>cell_at (hF θ.w θ.h).2.1 2,fun θ=>cell_at (hF θ.w θ.h).2.1 5,fun θ=>cell_at (hF θ.w θ.h).2.1 4,fun θ=>cell_at (hF θ.w θ.h).2.1 14,⟨c_id.out⟩,⟨c_since.out⟩,⟨c_siz.out⟩,⟨c_blk.out⟩⟩⟩
 clear hF G2 hN _hv hb2 c_id c_since c_siz c_blk
 obtain⟨N,hNe⟩:∃ N,shSp++t.name=N:=⟨_,rfl⟩
 have sN:N.size=1+t.name.size:=by rw[<- hNe,ByteArray.size_append];rfl
 have oN:¬ 9223372036854775807<1+t.name.size:=by omega
 generalize shSp++shI t.id=D_id at *
 generalize shSp++shI t.since=D_since at *
 generalize shSp++shI t.siz=D_siz at *
 generalize shSp++shI t.blk=D_blk at *
 generalize pnZ t.prim=D_prim at cN
 have u0:¬ 9223372036854775807<5+N.size:=by omega
 have u1:¬ 9223372036854775807<5+N.size+D_id.size:=by omega
 have u2:¬ 9223372036854775807<5+N.size+D_id.size+D_since.size:=by omega
 have u3:¬ 9223372036854775807<5+N.size+D_id.size+D_since.size+D_siz.size:=by omega
 have u4:¬ 9223372036854775807<5+N.size+D_id.size+D_since.size+D_siz.size+D_blk.size:=by omega
 have hop':t.op=4:=hop
 rw[hop] at z0 hW
 simp only[shPs] at hW
 go_enter Tryz.func19,Tryz.ntmps19
 go_upto_region 10 with (go_at_call 39;refine cN.mono ?_;rintro _ w1 ⟨rfl,hb3⟩;obtain⟨y0,p,p0,pN,pE,x_id,x_since,x_siz,x_blk,k_id,k_since,k_siz,k_blk⟩:=hP.out w1 hb3;rw[hop] at y0)
 refine wp_region_pp p [0,1,2,3,6,7,10,11,14,15,4,5,8,9,12,13,16,17,18] (by kernel_rfl) (by kernel_rfl) (fun _ _ d _ _ h=>by cases d<;>exact h) p0 ?_
 simp only[List.filterMap_cons,List.filterMap_nil,List.getElem?_cons_zero,List.getElem?_cons_succ]
 have hp:=p0
 generalize w1.drew=W at hp ⊢
 repeat (first
  | (guard_target =~ Lx _ _ _ _ (Oper.mk _ (Op.call { callee:=Callee.value (Operand.func 40),args:=_,argTypes:=_ }) _ _ _ _::_) _ _;(first|refine lx_p1 ent_num12 k_id.out hp rfl (by rfl) ?_|refine lx_p1 ent_num12 k_since.out hp rfl (by rfl) ?_|refine lx_p1 ent_num12 k_siz.out hp rfl (by rfl) ?_|refine lx_p1 ent_num12 k_blk.out hp rfl (by rfl) ?_);clear hp;intro W hp;simp only[pts])
  | (refine lx_one rfl ?_;(first|go_big_quiet_skip|(go_big_quiet_want;go_big_quiet_op;go_big_quiet_on));refine wpQuiet_nil ?_))
 refine lx_done ?_
 have hE:=pE _ hp
 go_wp2_with fail
 go_ret
 exact⟨by subst hNe;rfl,hE.out⟩
theorem shown_6 (t:Tk) (pc:Option Addr) (cc:Nat) (w:World) (hop:t.op=6) (hN:ShN t) (hnm:t.name.size<=140737488355328) (_hv:0<=t.val/\t.val<18446744073709551616) :
  Calls Tryz.prog 19 #[tkV t pc cc] w fun e w'=>e = .returned (.string (shJ (shT pnZ t)))/\Below w.heap.size w w':=by
 have hT:shT pnZ t=[shDat,t.name,shI t.id,shI t.since,shI t.siz,pnZ t.prim]:=by unfold shT;rw[if_neg (by omega),if_neg (by omega),if_neg (by omega),if_pos hop]
 rw[hT,shJ_6]
 rw[<- ByteArray.append_assoc (c:=pnZ t.prim)]
 clear hT
 obtain⟨W2,hW,hb2,hF⟩:=shown_w t pc cc w
 have B2:Hid (Below w.heap.size w W2):=⟨hb2⟩
 have G2:=hF W2 (Below.refl _ _)
 have z0:W2.cell? ⟨w.heap.size,0,none⟩=some (.int .i64 t.op):=cell_at G2.2.1 0
 have z1:W2.cell? ⟨w.heap.size,1,none⟩=some (.string t.name):=cell_at G2.2.1 1
 have z6:W2.cell? ⟨w.heap.size,6,none⟩=some (.int .i64 t.prim):=cell_at G2.2.1 6
 have b_id:=hN.id (by omega)
 have sz_id:=shI_size b_id
 have b_since:=hN.since (by omega)
 have sz_since:=shI_size b_since
 have b_siz:=hN.siz (by omega)
 have sz_siz:=shI_size b_siz
 have sz_prim:=pnZ_size t.prim
 have c_id:Hid (∀ V,Below W2.heap.size W2 V->Calls Tryz.prog 40 #[.int .i64 t.id] V fun e w'=>e = .returned (.string (shSp++shI t.id))/\Below W2.heap.size W2 w'):=⟨fun V hV=>(num12 t.id b_id.1 b_id.2 V).mono fun e w' h=>⟨h.1,hV.trans (h.2.mono hV.size)⟩⟩
 have c_since:Hid (∀ V,Below W2.heap.size W2 V->Calls Tryz.prog 40 #[.int .i64 t.since] V fun e w'=>e = .returned (.string (shSp++shI t.since))/\Below W2.heap.size W2 w'):=⟨fun V hV=>(num12 t.since b_since.1 b_since.2 V).mono fun e w' h=>⟨h.1,hV.trans (h.2.mono hV.size)⟩⟩
 have c_siz:Hid (∀ V,Below W2.heap.size W2 V->Calls Tryz.prog 40 #[.int .i64 t.siz] V fun e w'=>e = .returned (.string (shSp++shI t.siz))/\Below W2.heap.size W2 w'):=⟨fun V hV=>(num12 t.siz b_siz.1 b_siz.2 V).mono fun e w' h=>⟨h.1,hV.trans (h.2.mono hV.size)⟩⟩
 have cN:=refNameOf12 t.prim W2
 have hP:Hid (∀ V,Below W2.heap.size W2 V->V.cell? ⟨w.heap.size,0,none⟩=some (.int .i64 t.op)/\∃ p:World->Prop,p V.drew/\Nonempty (CW p)/\(∀ X,p X->Hid (Below w.heap.size w X))/\(∀ θ:CW p,θ.w.cell? ⟨w.heap.size,2,none⟩=some (.int .i64 t.id))/\(∀ θ:CW p,θ.w.cell? ⟨w.heap.size,5,none⟩=some (.int .i64 t.since))/\(∀ θ:CW p,θ.w.cell? ⟨w.heap.size,4,none⟩=some (.int .i64 t.siz))/\(Hid (∀ V,p V->Calls Tryz.prog 40 #[.int .i64 t.id] V fun e w'=>e = .returned (.string (shSp++shI t.id))/\p w'))/\(Hid (∀ V,p V->Calls Tryz.prog 40 #[.int .i64 t.since] V fun e w'=>e = .returned (.string (shSp++shI t.since))/\p w'))/\(Hid (∀ V,p V->Calls Tryz.prog 40 #[.int .i64 t.siz] V fun e w'=>e = .returned (.string (shSp++shI t.siz))/\p w'))):=⟨fun V hV =>
  ⟨cell_at (hF V hV).2.1 0,fun X=>Below W2.heap.size W2 X,hV.drew,⟨⟨V,hV⟩⟩,fun X h=>⟨(hF X h).1⟩,fun θ=>cell_at (hF θ.w θ.h).2.1 2,fun θ=>cell_at (hF θ.w θ.h).2.1 5,fun θ=>cell_at (hF θ.w θ.h).2.1 4,⟨c_id.out⟩,⟨c_since.out⟩,⟨c_siz.out⟩⟩⟩
 clear hF G2 hN _hv hb2 c_id c_since c_siz
 obtain⟨N,hNe⟩:∃ N,shSp++t.name=N:=⟨_,rfl⟩
 have sN:N.size=1+t.name.size:=by rw[<- hNe,ByteArray.size_append];rfl
 have oN:¬ 9223372036854775807<1+t.name.size:=by omega
 generalize shSp++shI t.id=D_id at *
 generalize shSp++shI t.since=D_since at *
 generalize shSp++shI t.siz=D_siz at *
 generalize pnZ t.prim=D_prim at *
 have u0:¬ 9223372036854775807<4+N.size:=by omega
 have u1:¬ 9223372036854775807<4+N.size+D_id.size:=by omega
 have u2:¬ 9223372036854775807<4+N.size+D_id.size+D_since.size:=by omega
 have u3:¬ 9223372036854775807<4+N.size+D_id.size+D_since.size+D_siz.size:=by omega
 have u4:¬ 9223372036854775807<4+N.size+D_id.size+D_since.size+D_siz.size+1:=by omega
 have u5:¬ 9223372036854775807<4+N.size+D_id.size+D_since.size+D_siz.size+1+D_prim.size:=by omega
 have hop':t.op=6:=hop
 rw[hop] at z0 hW
 simp only[shPs] at hW
 go_enter Tryz.func19,Tryz.ntmps19
 go_upto_region 12 with (go_at_call 39;refine cN.mono ?_;rintro _ w1 ⟨rfl,hb3⟩;obtain⟨y0,p,p0,pN,pE,x_id,x_since,x_siz,k_id,k_since,k_siz⟩:=hP.out w1 hb3;rw[hop] at y0)
 refine wp_region_pp p [0,1,2,3,6,7,10,11,15,4,5,8,9,12,13,14,16,17] (by kernel_rfl) (by kernel_rfl) (fun _ _ d _ _ h=>by cases d<;>exact h) p0 ?_
 simp only[List.filterMap_cons,List.filterMap_nil,List.getElem?_cons_zero,List.getElem?_cons_succ]
 have hp:=p0
 generalize w1.drew=W at hp ⊢
 repeat (first
  | (guard_target =~ Lx _ _ _ _ (Oper.mk _ (Op.call { callee:=Callee.value (Operand.func 40),args:=_,argTypes:=_ }) _ _ _ _::_) _ _;(first|refine lx_p1 ent_num12 k_id.out hp rfl (by rfl) ?_|refine lx_p1 ent_num12 k_since.out hp rfl (by rfl) ?_|refine lx_p1 ent_num12 k_siz.out hp rfl (by rfl) ?_);clear hp;intro W hp;simp only[pts])
  | (refine lx_one rfl ?_;(first|go_big_quiet_skip|(go_big_quiet_want;go_big_quiet_op;go_big_quiet_on));refine wpQuiet_nil ?_))
 refine lx_done ?_
 have hE:=pE _ hp
 go_wp2_with fail
 go_ret
 exact⟨by subst hNe;rfl,hE.out⟩
theorem shown_8 (t:Tk) (pc:Option Addr) (cc:Nat) (w:World) (hop:t.op=8) (hN:ShN t) (hnm:t.name.size<=140737488355328) (_hv:0<=t.val/\t.val<18446744073709551616) :
  Calls Tryz.prog 19 #[tkV t pc cc] w fun e w'=>e = .returned (.string (shJ (shT pnZ t)))/\Below w.heap.size w w':=by
 have hT:shT pnZ t=[shCmp,t.name,shI t.off,shI t.siz]:=by unfold shT;rw[if_neg (by omega),if_neg (by omega),if_neg (by omega),if_neg (by omega),if_pos hop]
 rw[hT,shJ_4]
 clear hT
 obtain⟨W2,hW,hb2,hF⟩:=shown_w t pc cc w
 have B2:Hid (Below w.heap.size w W2):=⟨hb2⟩
 have G2:=hF W2 (Below.refl _ _)
 have z0:W2.cell? ⟨w.heap.size,0,none⟩=some (.int .i64 t.op):=cell_at G2.2.1 0
 have z1:W2.cell? ⟨w.heap.size,1,none⟩=some (.string t.name):=cell_at G2.2.1 1
 have z6:W2.cell? ⟨w.heap.size,6,none⟩=some (.int .i64 t.prim):=cell_at G2.2.1 6
 have b_off:=hN.off (by omega)
 have sz_off:=shI_size b_off
 have b_siz:=hN.siz (by omega)
 have sz_siz:=shI_size b_siz
 have c_off:Hid (∀ V,Below W2.heap.size W2 V->Calls Tryz.prog 40 #[.int .i64 t.off] V fun e w'=>e = .returned (.string (shSp++shI t.off))/\Below W2.heap.size W2 w'):=⟨fun V hV=>(num12 t.off b_off.1 b_off.2 V).mono fun e w' h=>⟨h.1,hV.trans (h.2.mono hV.size)⟩⟩
 have c_siz:Hid (∀ V,Below W2.heap.size W2 V->Calls Tryz.prog 40 #[.int .i64 t.siz] V fun e w'=>e = .returned (.string (shSp++shI t.siz))/\Below W2.heap.size W2 w'):=⟨fun V hV=>(num12 t.siz b_siz.1 b_siz.2 V).mono fun e w' h=>⟨h.1,hV.trans (h.2.mono hV.size)⟩⟩
 have cN:=refNameOf12 t.prim W2
 have hP:Hid (∀ V,Below W2.heap.size W2 V->V.cell? ⟨w.heap.size,0,none⟩=some (.int .i64 t.op)/\∃ p:World->Prop,p V.drew/\Nonempty (CW p)/\(∀ X,p X->Hid (Below w.heap.size w X))/\(∀ θ:CW p,θ.w.cell? ⟨w.heap.size,3,none⟩=some (.int .i64 t.off))/\(∀ θ:CW p,θ.w.cell? ⟨w.heap.size,4,none⟩=some (.int .i64 t.siz))/\(Hid (∀ V,p V->Calls Tryz.prog 40 #[.int .i64 t.off] V fun e w'=>e = .returned (.string (shSp++shI t.off))/\p w'))/\(Hid (∀ V,p V->Calls Tryz.prog 40 #[.int .i64 t.siz] V fun e w'=>e = .returned (.string (shSp++shI t.siz))/\p w'))):=⟨fun V hV =>
  ⟨cell_at (hF V hV).2.1 0,fun X=>Below W2.heap.size W2 X,hV.drew,⟨⟨V,hV⟩⟩,fun X h=>⟨(hF X h).1⟩,fun θ=>cell_at (hF θ.w θ.h).2.1 3,fun θ=>cell_at (hF θ.w θ.h).2.1 4,⟨c_off.out⟩,⟨c_siz.out⟩⟩⟩
 clear hF G2 hN _hv hb2 c_off c_siz
 obtain⟨N,hNe⟩:∃ N,shSp++t.name=N:=⟨_,rfl⟩
 have sN:N.size=1+t.name.size:=by rw[<- hNe,ByteArray.size_append];rfl
 have oN:¬ 9223372036854775807<1+t.name.size:=by omega
 generalize shSp++shI t.off=D_off at *
 generalize shSp++shI t.siz=D_siz at *
 generalize pnZ t.prim=D_prim at cN
 have u0:¬ 9223372036854775807<9+N.size:=by omega
 have u1:¬ 9223372036854775807<9+N.size+D_off.size:=by omega
 have u2:¬ 9223372036854775807<9+N.size+D_off.size+D_siz.size:=by omega
 have hop':t.op=8:=hop
 rw[hop] at z0 hW
 simp only[shPs] at hW
 go_enter Tryz.func19,Tryz.ntmps19
 go_upto_region 14 with (go_at_call 39;refine cN.mono ?_;rintro _ w1 ⟨rfl,hb3⟩;obtain⟨y0,p,p0,pN,pE,x_off,x_siz,k_off,k_siz⟩:=hP.out w1 hb3;rw[hop] at y0)
 refine wp_region_pp p [0,1,2,3,6,7,4,5,8,9,10] (by kernel_rfl) (by kernel_rfl) (fun _ _ d _ _ h=>by cases d<;>exact h) p0 ?_
 simp only[List.filterMap_cons,List.filterMap_nil,List.getElem?_cons_zero,List.getElem?_cons_succ]
 have hp:=p0
 generalize w1.drew=W at hp ⊢
 repeat (first
  | (guard_target =~ Lx _ _ _ _ (Oper.mk _ (Op.call { callee:=Callee.value (Operand.func 40),args:=_,argTypes:=_ }) _ _ _ _::_) _ _;(first|refine lx_p1 ent_num12 k_off.out hp rfl (by rfl) ?_|refine lx_p1 ent_num12 k_siz.out hp rfl (by rfl) ?_);clear hp;intro W hp;simp only[pts])
  | (refine lx_one rfl ?_;(first|go_big_quiet_skip|(go_big_quiet_want;go_big_quiet_op;go_big_quiet_on));refine wpQuiet_nil ?_))
 refine lx_done ?_
 have hE:=pE _ hp
 go_wp2_with fail
 go_ret
 exact⟨by subst hNe;rfl,hE.out⟩
theorem shown_10 (t:Tk) (pc:Option Addr) (cc:Nat) (w:World) (hop:t.op=10) (hN:ShN t) (hnm:t.name.size<=140737488355328) (_hv:0<=t.val/\t.val<18446744073709551616) :
  Calls Tryz.prog 19 #[tkV t pc cc] w fun e w'=>e = .returned (.string (shJ (shT pnZ t)))/\Below w.heap.size w w':=by
 have hT:shT pnZ t=[shEnu,t.name,shI t.off,shI t.siz]:=by unfold shT;rw[if_neg (by omega),if_neg (by omega),if_neg (by omega),if_neg (by omega),if_neg (by omega),if_pos hop]
 rw[hT,shJ_4]
 clear hT
 obtain⟨W2,hW,hb2,hF⟩:=shown_w t pc cc w
 have B2:Hid (Below w.heap.size w W2):=⟨hb2⟩
 have G2:=hF W2 (Below.refl _ _)
 have z0:W2.cell? ⟨w.heap.size,0,none⟩=some (.int .i64 t.op):=cell_at G2.2.1 0
 have z1:W2.cell? ⟨w.heap.size,1,none⟩=some (.string t.name):=cell_at G2.2.1 1
 have z6:W2.cell? ⟨w.heap.size,6,none⟩=some (.int .i64 t.prim):=cell_at G2.2.1 6
 have b_off:=hN.off (by omega)
 have sz_off:=shI_size b_off
 have b_siz:=hN.siz (by omega)
 have sz_siz:=shI_size b_siz
 have c_off:Hid (∀ V,Below W2.heap.size W2 V->Calls Tryz.prog 40 #[.int .i64 t.off] V fun e w'=>e = .returned (.string (shSp++shI t.off))/\Below W2.heap.size W2 w'):=⟨fun V hV=>(num12 t.off b_off.1 b_off.2 V).mono fun e w' h=>⟨h.1,hV.trans (h.2.mono hV.size)⟩⟩
 have c_siz:Hid (∀ V,Below W2.heap.size W2 V->Calls Tryz.prog 40 #[.int .i64 t.siz] V fun e w'=>e = .returned (.string (shSp++shI t.siz))/\Below W2.heap.size W2 w'):=⟨fun V hV=>(num12 t.siz b_siz.1 b_siz.2 V).mono fun e w' h=>⟨h.1,hV.trans (h.2.mono hV.size)⟩⟩
 have cN:=refNameOf12 t.prim W2
 have hP:Hid (∀ V,Below W2.heap.size W2 V->V.cell? ⟨w.heap.size,0,none⟩=some (.int .i64 t.op)/\∃ p:World->Prop,p V.drew/\Nonempty (CW p)/\(∀ X,p X->Hid (Below w.heap.size w X))/\(∀ θ:CW p,θ.w.cell? ⟨w.heap.size,3,none⟩=some (.int .i64 t.off))/\(∀ θ:CW p,θ.w.cell? ⟨w.heap.size,4,none⟩=some (.int .i64 t.siz))/\(Hid (∀ V,p V->Calls Tryz.prog 40 #[.int .i64 t.off] V fun e w'=>e = .returned (.string (shSp++shI t.off))/\p w'))/\(Hid (∀ V,p V->Calls Tryz.prog 40 #[.int .i64 t.siz] V fun e w'=>e = .returned (.string (shSp++shI t.siz))/\p w'))):=⟨fun V hV =>
  ⟨cell_at (hF V hV).2.1 0,fun X=>Below W2.heap.size W2 X,hV.drew,⟨⟨V,hV⟩⟩,fun X h=>⟨(hF X h).1⟩,fun θ=>cell_at (hF θ.w θ.h).2.1 3,fun θ=>cell_at (hF θ.w θ.h).2.1 4,⟨c_off.out⟩,⟨c_siz.out⟩⟩⟩
 clear hF G2 hN _hv hb2 c_off c_siz
 obtain⟨N,hNe⟩:∃ N,shSp++t.name=N:=⟨_,rfl⟩
 have sN:N.size=1+t.name.size:=by rw[<- hNe,ByteArray.size_append];rfl
 have oN:¬ 9223372036854775807<1+t.name.size:=by omega
 generalize shSp++shI t.off=D_off at *
 generalize shSp++shI t.siz=D_siz at *
 generalize pnZ t.prim=D_prim at cN
 have u0:¬ 9223372036854775807<4+N.size:=by omega
 have u1:¬ 9223372036854775807<4+N.size+D_off.size:=by omega
 have u2:¬ 9223372036854775807<4+N.size+D_off.size+D_siz.size:=by omega
 have hop':t.op=10:=hop
 rw[hop] at z0 hW
 simp only[shPs] at hW
 go_enter Tryz.func19,Tryz.ntmps19
 go_upto_region 16 with (go_at_call 39;refine cN.mono ?_;rintro _ w1 ⟨rfl,hb3⟩;obtain⟨y0,p,p0,pN,pE,x_off,x_siz,k_off,k_siz⟩:=hP.out w1 hb3;rw[hop] at y0)
 refine wp_region_pp p [0,1,2,3,6,7,4,5,8,9,10] (by kernel_rfl) (by kernel_rfl) (fun _ _ d _ _ h=>by cases d<;>exact h) p0 ?_
 simp only[List.filterMap_cons,List.filterMap_nil,List.getElem?_cons_zero,List.getElem?_cons_succ]
 have hp:=p0
 generalize w1.drew=W at hp ⊢
 repeat (first
  | (guard_target =~ Lx _ _ _ _ (Oper.mk _ (Op.call { callee:=Callee.value (Operand.func 40),args:=_,argTypes:=_ }) _ _ _ _::_) _ _;(first|refine lx_p1 ent_num12 k_off.out hp rfl (by rfl) ?_|refine lx_p1 ent_num12 k_siz.out hp rfl (by rfl) ?_);clear hp;intro W hp;simp only[pts])
  | (refine lx_one rfl ?_;(first|go_big_quiet_skip|(go_big_quiet_want;go_big_quiet_op;go_big_quiet_on));refine wpQuiet_nil ?_))
 refine lx_done ?_
 have hE:=pE _ hp
 go_wp2_with fail
 go_ret
 exact⟨by subst hNe;rfl,hE.out⟩
theorem shown_12 (t:Tk) (pc:Option Addr) (cc:Nat) (w:World) (hop:t.op=12) (hN:ShN t) (hnm:t.name.size<=140737488355328) (_hv:0<=t.val/\t.val<18446744073709551616) :
  Calls Tryz.prog 19 #[tkV t pc cc] w fun e w'=>e = .returned (.string (shJ (shT pnZ t)))/\Below w.heap.size w w':=by
 have hT:shT pnZ t=[shSet,t.name,shI t.off,shI t.siz]:=by unfold shT;rw[if_neg (by omega),if_neg (by omega),if_neg (by omega),if_neg (by omega),if_neg (by omega),if_neg (by omega),if_pos hop]
 rw[hT,shJ_4]
 clear hT
 obtain⟨W2,hW,hb2,hF⟩:=shown_w t pc cc w
 have B2:Hid (Below w.heap.size w W2):=⟨hb2⟩
 have G2:=hF W2 (Below.refl _ _)
 have z0:W2.cell? ⟨w.heap.size,0,none⟩=some (.int .i64 t.op):=cell_at G2.2.1 0
 have z1:W2.cell? ⟨w.heap.size,1,none⟩=some (.string t.name):=cell_at G2.2.1 1
 have z6:W2.cell? ⟨w.heap.size,6,none⟩=some (.int .i64 t.prim):=cell_at G2.2.1 6
 have b_off:=hN.off (by omega)
 have sz_off:=shI_size b_off
 have b_siz:=hN.siz (by omega)
 have sz_siz:=shI_size b_siz
 have c_off:Hid (∀ V,Below W2.heap.size W2 V->Calls Tryz.prog 40 #[.int .i64 t.off] V fun e w'=>e = .returned (.string (shSp++shI t.off))/\Below W2.heap.size W2 w'):=⟨fun V hV=>(num12 t.off b_off.1 b_off.2 V).mono fun e w' h=>⟨h.1,hV.trans (h.2.mono hV.size)⟩⟩
 have c_siz:Hid (∀ V,Below W2.heap.size W2 V->Calls Tryz.prog 40 #[.int .i64 t.siz] V fun e w'=>e = .returned (.string (shSp++shI t.siz))/\Below W2.heap.size W2 w'):=⟨fun V hV=>(num12 t.siz b_siz.1 b_siz.2 V).mono fun e w' h=>⟨h.1,hV.trans (h.2.mono hV.size)⟩⟩
 have cN:=refNameOf12 t.prim W2
 have hP:Hid (∀ V,Below W2.heap.size W2 V->V.cell? ⟨w.heap.size,0,none⟩=some (.int .i64 t.op)/\∃ p:World->Prop,p V.drew/\Nonempty (CW p)/\(∀ X,p X->Hid (Below w.heap.size w X))/\(∀ θ:CW p,θ.w.cell? ⟨w.heap.size,3,none⟩=some (.int .i64 t.off))/\(∀ θ:CW p,θ.w.cell? ⟨w.heap.size,4,none⟩=some (.int .i64 t.siz))/\(Hid (∀ V,p V->Calls Tryz.prog 40 #[.int .i64 t.off] V fun e w'=>e = .returned (.string (shSp++shI t.off))/\p w'))/\(Hid (∀ V,p V->Calls Tryz.prog 40 #[.int .i64 t.siz] V fun e w'=>e = .returned (.string (shSp++shI t.siz))/\p w'))):=⟨fun V hV =>
  ⟨cell_at (hF V hV).2.1 0,fun X=>Below W2.heap.size W2 X,hV.drew,⟨⟨V,hV⟩⟩,fun X h=>⟨(hF X h).1⟩,fun θ=>cell_at (hF θ.w θ.h).2.1 3,fun θ=>cell_at (hF θ.w θ.h).2.1 4,⟨c_off.out⟩,⟨c_siz.out⟩⟩⟩
 clear hF G2 hN _hv hb2 c_off c_siz
 obtain⟨N,hNe⟩:∃ N,shSp++t.name=N:=⟨_,rfl⟩
 have sN:N.size=1+t.name.size:=by rw[<- hNe,ByteArray.size_append];rfl
 have oN:¬ 9223372036854775807<1+t.name.size:=by omega
 generalize shSp++shI t.off=D_off at *
 generalize shSp++shI t.siz=D_siz at *
 generalize pnZ t.prim=D_prim at cN
 have u0:¬ 9223372036854775807<3+N.size:=by omega
 have u1:¬ 9223372036854775807<3+N.size+D_off.size:=by omega
 have u2:¬ 9223372036854775807<3+N.size+D_off.size+D_siz.size:=by omega
 have hop':t.op=12:=hop
 rw[hop] at z0 hW
 simp only[shPs] at hW
 go_enter Tryz.func19,Tryz.ntmps19
 go_upto_region 18 with (go_at_call 39;refine cN.mono ?_;rintro _ w1 ⟨rfl,hb3⟩;obtain⟨y0,p,p0,pN,pE,x_off,x_siz,k_off,k_siz⟩:=hP.out w1 hb3;rw[hop] at y0)
 refine wp_region_pp p [0,1,2,3,6,7,4,5,8,9,10] (by kernel_rfl) (by kernel_rfl) (fun _ _ d _ _ h=>by cases d<;>exact h) p0 ?_
 simp only[List.filterMap_cons,List.filterMap_nil,List.getElem?_cons_zero,List.getElem?_cons_succ]
 have hp:=p0
 generalize w1.drew=W at hp ⊢
 repeat (first
  | (guard_target =~ Lx _ _ _ _ (Oper.mk _ (Op.call { callee:=Callee.value (Operand.func 40),args:=_,argTypes:=_ }) _ _ _ _::_) _ _;(first|refine lx_p1 ent_num12 k_off.out hp rfl (by rfl) ?_|refine lx_p1 ent_num12 k_siz.out hp rfl (by rfl) ?_);clear hp;intro W hp;simp only[pts])
  | (refine lx_one rfl ?_;(first|go_big_quiet_skip|(go_big_quiet_want;go_big_quiet_op;go_big_quiet_on));refine wpQuiet_nil ?_))
 refine lx_done ?_
 have hE:=pE _ hp
 go_wp2_with fail
 go_ret
 exact⟨by subst hNe;rfl,hE.out⟩
theorem shown_14 (t:Tk) (pc:Option Addr) (cc:Nat) (w:World) (hop:t.op=14) (hN:ShN t) (hnm:t.name.size<=140737488355328) (_hv:0<=t.val/\t.val<18446744073709551616) :
  Calls Tryz.prog 19 #[tkV t pc cc] w fun e w'=>e = .returned (.string (shJ (shT pnZ t)))/\Below w.heap.size w w':=by
 have hT:shT pnZ t=[shEnc,t.name,shI t.off,shI t.siz,pnZ t.prim,shI t.len,shP t.pres]:=by unfold shT;rw[if_neg (by omega),if_neg (by omega),if_neg (by omega),if_neg (by omega),if_neg (by omega),if_neg (by omega),if_neg (by omega),if_pos hop]
 rw[hT,shJ_7]
 rw[<- ByteArray.append_assoc (c:=pnZ t.prim)]
 clear hT
 obtain⟨W2,hW,hb2,hF⟩:=shown_w t pc cc w
 have B2:Hid (Below w.heap.size w W2):=⟨hb2⟩
 have G2:=hF W2 (Below.refl _ _)
 have z0:W2.cell? ⟨w.heap.size,0,none⟩=some (.int .i64 t.op):=cell_at G2.2.1 0
 have z1:W2.cell? ⟨w.heap.size,1,none⟩=some (.string t.name):=cell_at G2.2.1 1
 have z6:W2.cell? ⟨w.heap.size,6,none⟩=some (.int .i64 t.prim):=cell_at G2.2.1 6
 have b_off:=hN.off (by omega)
 have sz_off:=shI_size b_off
 have b_siz:=hN.siz (by omega)
 have sz_siz:=shI_size b_siz
 have sz_prim:=pnZ_size t.prim
 have b_len:=hN.len (by omega)
 have sz_len:=shI_size b_len
 have b_pres:=hN.pres (by omega)
 have sz_pres:(shSp++shP t.pres).size<=9:=by rw[ByteArray.size_append];have:=shP_size t.pres;show 1+(shP t.pres).size<=9;omega
 have c_off:Hid (∀ V,Below W2.heap.size W2 V->Calls Tryz.prog 40 #[.int .i64 t.off] V fun e w'=>e = .returned (.string (shSp++shI t.off))/\Below W2.heap.size W2 w'):=⟨fun V hV=>(num12 t.off b_off.1 b_off.2 V).mono fun e w' h=>⟨h.1,hV.trans (h.2.mono hV.size)⟩⟩
 have c_siz:Hid (∀ V,Below W2.heap.size W2 V->Calls Tryz.prog 40 #[.int .i64 t.siz] V fun e w'=>e = .returned (.string (shSp++shI t.siz))/\Below W2.heap.size W2 w'):=⟨fun V hV=>(num12 t.siz b_siz.1 b_siz.2 V).mono fun e w' h=>⟨h.1,hV.trans (h.2.mono hV.size)⟩⟩
 have c_len:Hid (∀ V,Below W2.heap.size W2 V->Calls Tryz.prog 40 #[.int .i64 t.len] V fun e w'=>e = .returned (.string (shSp++shI t.len))/\Below W2.heap.size W2 w'):=⟨fun V hV=>(num12 t.len b_len.1 b_len.2 V).mono fun e w' h=>⟨h.1,hV.trans (h.2.mono hV.size)⟩⟩
 have cN:=refNameOf12 t.prim W2
 have hP:Hid (∀ V,Below W2.heap.size W2 V->V.cell? ⟨w.heap.size,0,none⟩=some (.int .i64 t.op)/\∃ p:World->Prop,p V.drew/\Nonempty (CW p)/\(∀ X,p X->Hid (Below w.heap.size w X))/\(∀ θ:CW p,θ.w.cell? ⟨w.heap.size,3,none⟩=some (.int .i64 t.off))/\(∀ θ:CW p,θ.w.cell? ⟨w.heap.size,4,none⟩=some (.int .i64 t.siz))/\(∀ θ:CW p,θ.w.cell? ⟨w.heap.size,7,none⟩=some (.int .i64 t.len))/\(∀ θ:CW p,θ.w.cell? ⟨w.heap.size,8,none⟩=some (.int .i64 t.pres))/\(∀ θ:CW p,θ.w.cell? ⟨w.heap.size+1,t.pres.toNat,none⟩=some (.string (shSp++shP t.pres)))/\(Hid (∀ V,p V->Calls Tryz.prog 40 #[.int .i64 t.off] V fun e w'=>e = .returned (.string (shSp++shI t.off))/\p w'))/\(Hid (∀ V,p V->Calls Tryz.prog 40 #[.int .i64 t.siz] V fun e w'=>e = .returned (.string (shSp++shI t.siz))/\p w'))/\(Hid (∀ V,p V->Calls Tryz.prog 40 #[.int .i64 t.len] V fun e w'=>e = .returned (.string (shSp++shI t.len))/\p w'))):=⟨fun V hV =>
  ⟨cell_at (hF V hV).2.1 0,fun X=>Below W2.heap.size W2 X,hV.drew,⟨⟨V,hV⟩⟩,fun X h=>⟨(hF X h).1⟩,fun θ=>cell_at (hF θ.w θ.h).2.1 3,fun θ=>cell_at (hF θ.w θ.h).2.1 4,fun θ=>cell_at (hF θ.w θ.h).2.1 7,fun θ=>cell_at (hF θ.w θ.h).2.1 8,fun θ=>shPs_at b_pres (hF θ.w θ.h).2.2,⟨c_off.out⟩,⟨c_siz.out⟩,⟨c_len.out⟩⟩⟩
 clear hF G2 hN _hv hb2 c_off c_siz c_len
 obtain⟨N,hNe⟩:∃ N,shSp++t.name=N:=⟨_,rfl⟩
 have sN:N.size=1+t.name.size:=by rw[<- hNe,ByteArray.size_append];rfl
 have oN:¬ 9223372036854775807<1+t.name.size:=by omega
 generalize shSp++shI t.off=D_off at *
 generalize shSp++shI t.siz=D_siz at *
 generalize shSp++shI t.len=D_len at *
 generalize shSp++shP t.pres=D_pres at *
 generalize pnZ t.prim=D_prim at *
 have u0:¬ 9223372036854775807<8+N.size:=by omega
 have u1:¬ 9223372036854775807<8+N.size+D_off.size:=by omega
 have u2:¬ 9223372036854775807<8+N.size+D_off.size+D_siz.size:=by omega
 have u3:¬ 9223372036854775807<8+N.size+D_off.size+D_siz.size+1:=by omega
 have u4:¬ 9223372036854775807<8+N.size+D_off.size+D_siz.size+1+D_prim.size:=by omega
 have u5:¬ 9223372036854775807<8+N.size+D_off.size+D_siz.size+1+D_prim.size+D_len.size:=by omega
 have u6:¬ 9223372036854775807<8+N.size+D_off.size+D_siz.size+1+D_prim.size+D_len.size+D_pres.size:=by omega
 have hop':t.op=14:=hop
 rw[hop] at z0 hW
 simp only[shPs] at hW
 go_enter Tryz.func19,Tryz.ntmps19
 go_upto_region 20 with (go_at_call 39;refine cN.mono ?_;rintro _ w1 ⟨rfl,hb3⟩;obtain⟨y0,p,p0,pN,pE,x_off,x_siz,x_len,x_pres,x_ps,k_off,k_siz,k_len⟩:=hP.out w1 hb3;rw[hop] at y0)
 obtain⟨P,hPr⟩:∃ P:Nat,t.pres=P:=⟨t.pres.toNat,by omega⟩
 have hP3:(P:Int)<3:=by omega
 have hP3n:P<3:=by omega
 rw[hPr] at x_pres x_ps
 rw[Int.toNat_natCast] at x_ps
 clear hPr b_pres
 refine wp_region_pp p [0,1,2,3,6,7,11,13,14,17,18,19,20,4,5,8,9,10,12,15,16,21,22] (by kernel_rfl) (by kernel_rfl) (fun _ _ d _ _ h=>by cases d<;>exact h) p0 ?_
 simp only[List.filterMap_cons,List.filterMap_nil,List.getElem?_cons_zero,List.getElem?_cons_succ]
 have hp:=p0
 generalize w1.drew=W at hp ⊢
 repeat (first
  | (guard_target =~ Lx _ _ _ _ (Oper.mk _ (Op.call { callee:=Callee.value (Operand.func 40),args:=_,argTypes:=_ }) _ _ _ _::_) _ _;(first|refine lx_p1 ent_num12 k_off.out hp rfl (by rfl) ?_|refine lx_p1 ent_num12 k_siz.out hp rfl (by rfl) ?_|refine lx_p1 ent_num12 k_len.out hp rfl (by rfl) ?_);clear hp;intro W hp;simp only[pts])
  | (refine lx_one rfl ?_;(first|go_big_quiet_skip|(go_big_quiet_want;go_big_quiet_op;go_big_quiet_on));refine wpQuiet_nil ?_))
 refine lx_done ?_
 have hE:=pE _ hp
 go_wp2_with fail
 go_ret
 exact⟨by subst hNe;rfl,hE.out⟩
theorem shown_15 (t:Tk) (pc:Option Addr) (cc:Nat) (w:World) (hop:t.op=15) (hN:ShN t) (hnm:t.name.size<=140737488355328) (hv:0<=t.val/\t.val<18446744073709551616) :
  Calls Tryz.prog 19 #[tkV t pc cc] w fun e w'=>e = .returned (.string (shJ (shT pnZ t)))/\Below w.heap.size w w':=by
 have hT:shT pnZ t=[shCho,t.name,shI t.val,shI t.since]:=by unfold shT;rw[if_neg (by omega),if_neg (by omega),if_neg (by omega),if_neg (by omega),if_neg (by omega),if_neg (by omega),if_neg (by omega),if_neg (by omega),if_pos hop]
 rw[hT,shJ_4]
 clear hT
 obtain⟨W2,hW,hb2,hF⟩:=shown_w t pc cc w
 have B2:Hid (Below w.heap.size w W2):=⟨hb2⟩
 have G2:=hF W2 (Below.refl _ _)
 have z0:W2.cell? ⟨w.heap.size,0,none⟩=some (.int .i64 t.op):=cell_at G2.2.1 0
 have z1:W2.cell? ⟨w.heap.size,1,none⟩=some (.string t.name):=cell_at G2.2.1 1
 have z6:W2.cell? ⟨w.heap.size,6,none⟩=some (.int .i64 t.prim):=cell_at G2.2.1 6
 have sz_val:=shV_size hv
 have b_since:=hN.since (by omega)
 have sz_since:=shI_size b_since
 have c_val:Hid (∀ V,Below W2.heap.size W2 V->Calls Tryz.prog 41 #[.int .u64 t.val] V fun e w'=>e = .returned (.string (shSp++shI t.val))/\Below W2.heap.size W2 w'):=⟨fun V hV=>by
  obtain⟨m,hm⟩:∃ m:Nat,t.val=m:=⟨t.val.toNat,by omega⟩
  have e:shI t.val=shD m:=by unfold shI;rw[hm,Int.toNat_natCast]
  rw[e,hm]
  exact(decimal12 m (by omega) V).mono fun e w' h=>⟨h.1,hV.trans (h.2.mono hV.size)⟩⟩
 have c_since:Hid (∀ V,Below W2.heap.size W2 V->Calls Tryz.prog 40 #[.int .i64 t.since] V fun e w'=>e = .returned (.string (shSp++shI t.since))/\Below W2.heap.size W2 w'):=⟨fun V hV=>(num12 t.since b_since.1 b_since.2 V).mono fun e w' h=>⟨h.1,hV.trans (h.2.mono hV.size)⟩⟩
 have cN:=refNameOf12 t.prim W2
 have hP:Hid (∀ V,Below W2.heap.size W2 V->V.cell? ⟨w.heap.size,0,none⟩=some (.int .i64 t.op)/\∃ p:World->Prop,p V.drew/\Nonempty (CW p)/\(∀ X,p X->Hid (Below w.heap.size w X))/\(∀ θ:CW p,θ.w.cell? ⟨w.heap.size,13,none⟩=some (.int .u64 t.val))/\(∀ θ:CW p,θ.w.cell? ⟨w.heap.size,5,none⟩=some (.int .i64 t.since))/\(Hid (∀ V,p V->Calls Tryz.prog 41 #[.int .u64 t.val] V fun e w'=>e = .returned (.string (shSp++shI t.val))/\p w'))/\(Hid (∀ V,p V->Calls Tryz.prog 40 #[.int .i64 t.since] V fun e w'=>e = .returned (.string (shSp++shI t.since))/\p w'))):=⟨fun V hV =>
  ⟨cell_at (hF V hV).2.1 0,fun X=>Below W2.heap.size W2 X,hV.drew,⟨⟨V,hV⟩⟩,fun X h=>⟨(hF X h).1⟩,fun θ=>cell_at (hF θ.w θ.h).2.1 13,fun θ=>cell_at (hF θ.w θ.h).2.1 5,⟨c_val.out⟩,⟨c_since.out⟩⟩⟩
 clear hF G2 hN hv hb2 c_val c_since
 obtain⟨N,hNe⟩:∃ N,shSp++t.name=N:=⟨_,rfl⟩
 have sN:N.size=1+t.name.size:=by rw[<- hNe,ByteArray.size_append];rfl
 have oN:¬ 9223372036854775807<1+t.name.size:=by omega
 generalize shSp++shI t.val=D_val at *
 generalize shSp++shI t.since=D_since at *
 generalize pnZ t.prim=D_prim at cN
 have u0:¬ 9223372036854775807<6+N.size:=by omega
 have u1:¬ 9223372036854775807<6+N.size+D_val.size:=by omega
 have u2:¬ 9223372036854775807<6+N.size+D_val.size+D_since.size:=by omega
 have hop':t.op=15:=hop
 rw[hop] at z0 hW
 simp only[shPs] at hW
 go_enter Tryz.func19,Tryz.ntmps19
 go_upto_region 22 with (go_at_call 39;refine cN.mono ?_;rintro _ w1 ⟨rfl,hb3⟩;obtain⟨y0,p,p0,pN,pE,x_val,x_since,k_val,k_since⟩:=hP.out w1 hb3;rw[hop] at y0)
 refine wp_region_pp p [0,1,2,3,6,7,4,5,8,9,10] (by kernel_rfl) (by kernel_rfl) (fun _ _ d _ _ h=>by cases d<;>exact h) p0 ?_
 simp only[List.filterMap_cons,List.filterMap_nil,List.getElem?_cons_zero,List.getElem?_cons_succ]
 have hp:=p0
 generalize w1.drew=W at hp ⊢
 repeat (first
  | (guard_target =~ Lx _ _ _ _ (Oper.mk _ (Op.call { callee:=Callee.value (Operand.func 41),args:=_,argTypes:=_ }) _ _ _ _::_) _ _;refine lx_p1 ent_dec12 k_val.out hp rfl (by rfl) ?_;clear hp;intro W hp;simp only[pts])
  | (guard_target =~ Lx _ _ _ _ (Oper.mk _ (Op.call { callee:=Callee.value (Operand.func 40),args:=_,argTypes:=_ }) _ _ _ _::_) _ _;(first|refine lx_p1 ent_num12 k_since.out hp rfl (by rfl) ?_);clear hp;intro W hp;simp only[pts])
  | (refine lx_one rfl ?_;(first|go_big_quiet_skip|(go_big_quiet_want;go_big_quiet_op;go_big_quiet_on));refine wpQuiet_nil ?_))
 refine lx_done ?_
 have hE:=pE _ hp
 go_wp2_with fail
 go_ret
 exact⟨by subst hNe;rfl,hE.out⟩
theorem shown_e (t:Tk) (pc:Option Addr) (cc:Nat) (w:World) (he:edO t.op=true) (hnm:t.name.size<=140737488355328) :
  Calls Tryz.prog 19 #[tkV t pc cc] w fun e w'=>e = .returned (.string (shJ (shT pnZ t)))/\Below w.heap.size w w':=by
 unfold edO at he
 have he:=decT he
 have hT:shT pnZ t=[shEnd,t.name]:=by unfold shT;rw[if_neg (by omega),if_neg (by omega),if_neg (by omega),if_neg (by omega),if_neg (by omega),if_neg (by omega),if_neg (by omega),if_neg (by omega),if_neg (by omega)]
 rw[hT,shJ_2]
 clear hT
 obtain⟨W2,hW,hb2,hF⟩:=shown_w t pc cc w
 have G2:=hF W2 (Below.refl _ _)
 have z1:W2.cell? ⟨w.heap.size,1,none⟩=some (.string t.name):=cell_at G2.2.1 1
 have z6:W2.cell? ⟨w.heap.size,6,none⟩=some (.int .i64 t.prim):=cell_at G2.2.1 6
 have n0:(t.op==0)=false:=beqN (by omega)
 have n2:(t.op==2)=false:=beqN (by omega)
 have n4:(t.op==4)=false:=beqN (by omega)
 have n6:(t.op==6)=false:=beqN (by omega)
 have n8:(t.op==8)=false:=beqN (by omega)
 have n10:(t.op==10)=false:=beqN (by omega)
 have n12:(t.op==12)=false:=beqN (by omega)
 have n14:(t.op==14)=false:=beqN (by omega)
 have n15:(t.op==15)=false:=beqN (by omega)
 have cN:=refNameOf12 t.prim W2
 have hP:Hid (∀ V,Below W2.heap.size W2 V->V.cell? ⟨w.heap.size,0,none⟩=some (.int .i64 t.op)/\Hid (Below w.heap.size w V)):=⟨fun V hV=>⟨cell_at (hF V hV).2.1 0,⟨(hF V hV).1⟩⟩⟩
 clear hF G2 hb2 he
 obtain⟨N,hNe⟩:∃ N,shSp++t.name=N:=⟨_,rfl⟩
 have sN:N.size=1+t.name.size:=by rw[<- hNe,ByteArray.size_append];rfl
 have oN:¬ 9223372036854775807<1+t.name.size:=by omega
 have u0:¬ 9223372036854775807<3+N.size:=by omega
 generalize pnZ t.prim=D_prim at cN
 simp only[shPs] at hW
 go_enter Tryz.func19,Tryz.ntmps19
 go_wp2_with (go_at_call 39;refine cN.mono ?_;rintro _ w1 ⟨rfl,hb3⟩;obtain⟨y0,hE⟩:=hP.out w1 hb3;clear hb3)
 go_ret
 exact⟨by subst hNe;rfl,hE.out⟩
theorem shown12 (t:Tk) (pc:Option Addr) (cc:Nat) (w:World) (hN:ShN t) (hnm:t.name.size<=140737488355328) (hv:0<=t.val/\t.val<18446744073709551616) :
  Calls Tryz.prog 19 #[tkV t pc cc] w fun e w'=>e = .returned (.string (shJ (shT pnZ t)))/\Below w.heap.size w w':=by
 have ho:=hN.op
 by_cases he:edO t.op=true
 ·exact shown_e t pc cc w he hnm
 ·have he':t.op=0\/t.op=2\/t.op=4\/t.op=6\/t.op=8\/t.op=10\/t.op=12\/t.op=14\/t.op=15:=by
   unfold edO at he
   rw[decide_eq_true_eq] at he
   omega
  rcases he' with e|e|e|e|e|e|e|e|e
  ·exact shown_0 t pc cc w e hN hnm hv
  ·exact shown_2 t pc cc w e hN hnm hv
  ·exact shown_4 t pc cc w e hN hnm hv
  ·exact shown_6 t pc cc w e hN hnm hv
  ·exact shown_8 t pc cc w e hN hnm hv
  ·exact shown_10 t pc cc w e hN hnm hv
  ·exact shown_12 t pc cc w e hN hnm hv
  ·exact shown_14 t pc cc w e hN hnm hv
  ·exact shown_15 t pc cc w e hN hnm hv
end Go.Proofs.YtjnafpefolgcoaaGreatDoor

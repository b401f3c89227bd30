import Derived.Test.YtbhmciieiilcfaaGreatDoorK07
import Derived.Test.YtbhmciieiilcfaaGreatDoorK06
namespace Go.Proofs.YtbhmciieiilcfaaGreatDoor
set_option maxRecDepth 1000000
set_option maxHeartbeats 16000000
open Go.ChangeShapes Go.WideShapes Go.ChangeAt Go.RowKit Go.Shelf Go.Maps
variable {E:List Nat} {W W' w w':World} {a c:Int} {b cap cp g go o:Nat} {f:Fm} {pp:Option Addr} {v:Value} {zs:List DL}
theorem ent_top:∀ ag w,(callFunc 100 ag).run Tryz.prog w = .ok (.enter 100 ag) w:=enters_of Tryz.func100 (by kernel_rfl) rfl
theorem ent_isNewI:∀ ag w,(callFunc 130 ag).run Tryz.prog w = .ok (.enter 130 ag) w:=enters_of Tryz.func130 (by kernel_rfl) rfl
theorem ent_isNewN:∀ ag w,(callFunc 131 ag).run Tryz.prog w = .ok (.enter 131 ag) w:=enters_of Tryz.func131 (by kernel_rfl) rfl
theorem ent_isNewV:∀ ag w,(callFunc 120 ag).run Tryz.prog w = .ok (.enter 120 ag) w:=enters_of Tryz.func120 (by kernel_rfl) rfl
theorem ent_isNewName:∀ ag w,(callFunc 119 ag).run Tryz.prog w = .ok (.enter 119 ag) w:=enters_of Tryz.func119 (by kernel_rfl) rfl
theorem ent_isNewPart:∀ ag w,(callFunc 111 ag).run Tryz.prog w = .ok (.enter 111 ag) w:=enters_of Tryz.func111 (by kernel_rfl) rfl
theorem notin1 {a:Nat} (h:a≠b):a∉[b]:=fun e=>h (List.mem_singleton.1 e)
abbrev nmK (a:Nat) (s:ByteArray):Value:=.agg #[.int .i64 (a:Int),.string s]
theorem isNewName_any (B gf go n cap g o gt ot m1 m2 m3 nn:Nat) (i:Int) (rl:Value) (dep:Nat->Int) (wh:Bool) (t:Tk) (x:Sv) (pc:Option Addr) (cc:Nat) (hs:Value->Prop) (b:Bool) (w:World)
  (hC:CkC w B gf (.slice (some ⟨go,0,none⟩) (n+1) cap) i rl m1 m2 m3 dep wh) (hX:ScC w g o go (n*8) x) (hgo:go<w.heap.size) (hT:TkC w gt ot t pc cc) (hgt:gt<w.heap.size) (hM:MHas w 176 m2 nn hs)
  (nB:B≠m2) (nG:go≠m2) (nT:gt≠m2) (hn:n<1000000000000) (hnn:nn<17592186044416) (hx:(x.at_:Int)<=9223372036854775807) (hl:t.name.size<=281474976710656) (hi:i64ok i) (hb:b=true↔¬ hs (nmK x.at_ t.name)) :
  Calls Tryz.prog 119 #[.pointer (some ⟨B,0,none⟩),.pointer (some ⟨gt,ot,none⟩)] w fun r w'=>r = .returned (.bool b)/\MHas w' 176 m2 (nn+1) (fun v=>v=nmK x.at_ t.name\/hs v)/\Kb [m2] w w':=by
 obtain⟨p,pB,pK,hN,f0,f1,f2,f3⟩:∃ p:World->Prop,(∀ W,p W->Kb [m2] w W) /\
   (∀ W,Kb [m2] w W->p W) /\
   Nonempty (CW p) /\
   (∀ θ:CW p,θ.w.cell? ⟨B,21,none⟩=some (.map (some m2))) /\
   (∀ θ:CW p,θ.w.cell? ⟨B,2,none⟩=some (.int .i64 i)) /\
   (∀ θ:CW p,θ.w.cell? ⟨go,n*8+1,none⟩=some (.int .i64 (x.at_:Int))) /\
   (∀ θ:CW p,θ.w.cell? ⟨gt,ot+1,none⟩=some (.string t.name)) :=
  ⟨Kb [m2] w,
   fun _ h=>h,
   fun _ h=>h,
   ⟨⟨_,Kb.refl _ _⟩⟩,
   fun θ=>(θ.h.cell hC.lt (notin1 nB)).trans hC.c21,
   fun θ=>(θ.h.cell hC.lt (notin1 nB)).trans hC.c2,
   fun θ=>(θ.h.cell hgo (notin1 nG)).trans hX.c1,
   fun θ=>(θ.h.cell hgt (notin1 nT)).trans hT.c1⟩
 have hml:=hM.lt
 go_enter Tryz.func119,Tryz.ntmps119
 go_wp2_with fail
 refine wp_region_pp p [0,1,2,3,4,5,6,11,12,13,14,16,17,18,19,7,8,9,10,15,20,21] (by kernel_rfl) (by kernel_rfl) (fun _ _ d _ _ h=>by cases d<;>exact h) (pK _ (Kb.refl _ _).drew) ?_
 simp only[List.filterMap_cons,List.filterMap_nil,List.getElem?_cons_zero,List.getElem?_cons_succ]
 repeat (refine lx_one rfl ?_;(first|go_big_quiet_skip|(go_big_quiet_want;go_big_quiet_op;go_big_quiet_on));refine wpQuiet_nil ?_)
 refine lx_call1 ent_top (top_any B go n cap _ hC.c0 hn) rfl (by rfl) ?_
 intro W1 hb1
 have k1:Kb [m2] w W1:=(Kb.refl _ _).drew.trans (Kb.of_below hb1)
 refine⟨⟨⟨_,pK _ k1⟩,rfl⟩,?_⟩
 simp only[pts]
 repeat (refine lx_one rfl ?_;(first|go_big_quiet_skip|(go_big_quiet_want;go_big_quiet_op;go_big_quiet_on));refine wpQuiet_nil ?_)
 refine lx_call3 ent_isNewN (isNewN_any m2 nn x.at_ i t.name hs b W1 (hM.same (hb1.block m2 hml)) hnn ⟨by omega,hx⟩ (by unfold maxLen;omega) hi hb) rfl rfl rfl (by rfl) ?_
 rintro W2 ⟨hM2,hg2⟩
 have k2:Kb [m2] w W2:=k1.trans (Kb.of_grown hg2 (List.mem_singleton.2 rfl))
 refine⟨⟨⟨_,pK _ k2⟩,rfl⟩,?_⟩
 simp only[pts]
 repeat (refine lx_one rfl ?_;(first|go_big_quiet_skip|(go_big_quiet_want;go_big_quiet_op;go_big_quiet_on));refine wpQuiet_nil ?_)
 refine lx_done ?_
 go_wp2_with fail
 go_ret
 exact⟨rfl,hM2,k2⟩
theorem notin2 {a c:Nat} (h:a≠b) (h':a≠c):a∉[b,c]:=fun e=>by simp at e;omega
theorem isNewPart_any (B gf go n cap g o gt ot m1 m2 m3 n1 nn:Nat) (i:Int) (rl:Value) (dep:Nat->Int) (wh:Bool) (t:Tk) (x:Sv) (pc:Option Addr) (cc:Nat) (h1 hs:Value->Prop) (b1 b:Bool) (w:World)
  (hC:CkC w B gf (.slice (some ⟨go,0,none⟩) (n+1) cap) i rl m1 m2 m3 dep wh) (hX:ScC w g o go (n*8) x) (hgo:go<w.heap.size) (hT:TkC w gt ot t pc cc) (hgt:gt<w.heap.size) (hM1:MHas w 3 m1 n1 h1) (hM:MHas w 176 m2 nn hs)
  (nB:B≠m2) (nG:go≠m2) (nT:gt≠m2) (nB1:B≠m1) (nG1:go≠m1) (nT1:gt≠m1) (n12:m1≠m2) (hn:n<1000000000000) (hn1:n1<17592186044416) (hnn:nn<17592186044416) (hx:(x.at_:Int)<=9223372036854775807) (hk:TkOk t) (hi:i64ok i) (hb1:b1=true↔¬ h1 (.int .i64 t.id)) (hb:b=true↔¬ hs (nmK x.at_ t.name)) :
  Calls Tryz.prog 111 #[.pointer (some ⟨B,0,none⟩),.pointer (some ⟨gt,ot,none⟩)] w fun r w'=>r = .returned (.bool (bet t.id 0 65535&&b1&&b))/\Kb [m1,m2] w w'/\((bet t.id 0 65535&&b1&&b)=true->MHas w' 3 m1 (n1+1) (fun v=>v = .int .i64 t.id\/h1 v)/\MHas w' 176 m2 (nn+1) (fun v=>v=nmK x.at_ t.name\/hs v)):=by
 obtain⟨p,pB,pK,hN,f0,f1,f2,cN⟩:∃ p:World->Prop,(∀ W,p W->Kb [m1,m2] w W) /\
   (∀ W,Kb [m1,m2] w W->p W) /\
   Nonempty (CW p) /\
   (∀ θ:CW p,θ.w.cell? ⟨B,20,none⟩=some (.map (some m1))) /\
   (∀ θ:CW p,θ.w.cell? ⟨B,2,none⟩=some (.int .i64 i)) /\
   (∀ θ:CW p,θ.w.cell? ⟨gt,ot+2,none⟩=some (.int .i64 t.id)) /\
   (∀ W,p W->Calls Tryz.prog 82 #[.int .i64 t.id,.int .i64 0,.int .i64 65535] W fun e w'=>e = .returned (.bool (bet t.id 0 65535))/\w'=W) :=
  ⟨Kb [m1,m2] w,
   fun _ h=>h,
   fun _ h=>h,
   ⟨⟨_,Kb.refl _ _⟩⟩,
   fun θ=>(θ.h.cell hC.lt (notin2 nB1 nB)).trans hC.c20,
   fun θ=>(θ.h.cell hC.lt (notin2 nB1 nB)).trans hC.c2,
   fun θ=>(θ.h.cell hgt (notin2 nT1 nT)).trans hT.c2,
   fun W _=>isBetween_any _ _ _ W⟩
 have cI:=isNewI_any m1 n1 t.id i h1 b1 w.drew hM1 hn1 hk.id hi hb1
 clear hb1
 replace hb:Hid (b=true↔¬ hs (nmK x.at_ t.name)):=⟨hb⟩
 rcases ch2 (bet t.id 0 65535) b1 with e0|⟨e0,e1⟩|⟨e0,e1⟩
 ·rw[e0] at cN ⊢
  go_enter Tryz.func111,Tryz.ntmps111
  go_wp2_with fail
  refine wp_region_lx p (by kernel_rfl) (by kernel_rfl) (fun _ _ d _ _ h=>by cases d<;>exact h) (pK _ (Kb.refl _ _).drew) ?_
  repeat (first|(refine lx_one rfl ?_;(first|go_big_quiet_skip|(go_big_quiet_want;go_big_quiet_op;go_big_quiet_on));refine wpQuiet_nil ?_)|(refine lx_skip (by rfl) ?_;simp only[pts]))
  refine lx_call3 ent_isBetween (cN _ (pK _ (Kb.refl _ _).drew)) rfl rfl rfl (by rfl) ?_
  rintro _ rfl
  refine⟨⟨⟨_,pK _ (Kb.refl _ _).drew⟩,rfl⟩,?_⟩
  simp only[pts]
  repeat (first|(refine lx_one rfl ?_;(first|go_big_quiet_skip|(go_big_quiet_want;go_big_quiet_op;go_big_quiet_on));refine wpQuiet_nil ?_)|(refine lx_skip (by rfl) ?_;simp only[pts]))
  refine lx_done ?_
  go_wp2_with fail
  go_ret
  exact⟨rfl,(Kb.refl _ _).drew,fun h=>by cases h⟩
 ·rw[e0] at cN ⊢
  rw[e1] at cI ⊢
  go_enter Tryz.func111,Tryz.ntmps111
  go_wp2_with fail
  refine wp_region_lx p (by kernel_rfl) (by kernel_rfl) (fun _ _ d _ _ h=>by cases d<;>exact h) (pK _ (Kb.refl _ _).drew) ?_
  repeat (first|(refine lx_one rfl ?_;(first|go_big_quiet_skip|(go_big_quiet_want;go_big_quiet_op;go_big_quiet_on));refine wpQuiet_nil ?_)|(refine lx_skip (by rfl) ?_;simp only[pts]))
  refine lx_call3 ent_isBetween (cN _ (pK _ (Kb.refl _ _).drew)) rfl rfl rfl (by rfl) ?_
  rintro _ rfl
  refine⟨⟨⟨_,pK _ (Kb.refl _ _).drew⟩,rfl⟩,?_⟩
  simp only[pts]
  repeat (first|(refine lx_one rfl ?_;(first|go_big_quiet_skip|(go_big_quiet_want;go_big_quiet_op;go_big_quiet_on));refine wpQuiet_nil ?_)|(refine lx_skip (by rfl) ?_;simp only[pts]))
  refine lx_call3 ent_isNewI cI rfl rfl rfl (by rfl) ?_
  rintro W1 ⟨hA,hg1⟩
  have k1:Kb [m1,m2] w W1:=(Kb.refl _ _).drew.trans (Kb.of_grown hg1 (by simp))
  refine⟨⟨⟨_,pK _ k1⟩,rfl⟩,?_⟩
  simp only[pts]
  repeat (first|(refine lx_one rfl ?_;(first|go_big_quiet_skip|(go_big_quiet_want;go_big_quiet_op;go_big_quiet_on));refine wpQuiet_nil ?_)|(refine lx_skip (by rfl) ?_;simp only[pts]))
  refine lx_done ?_
  go_wp2_with fail
  go_ret
  exact⟨rfl,k1,fun h=>by cases h⟩
 ·rw[e0] at cN ⊢
  rw[e1] at cI ⊢
  go_enter Tryz.func111,Tryz.ntmps111
  go_wp2_with fail
  refine wp_region_lx p (by kernel_rfl) (by kernel_rfl) (fun _ _ d _ _ h=>by cases d<;>exact h) (pK _ (Kb.refl _ _).drew) ?_
  repeat (first|(refine lx_one rfl ?_;(first|go_big_quiet_skip|(go_big_quiet_want;go_big_quiet_op;go_big_quiet_on));refine wpQuiet_nil ?_)|(refine lx_skip (by rfl) ?_;simp only[pts]))
  refine lx_call3 ent_isBetween (cN _ (pK _ (Kb.refl _ _).drew)) rfl rfl rfl (by rfl) ?_
  rintro _ rfl
  refine⟨⟨⟨_,pK _ (Kb.refl _ _).drew⟩,rfl⟩,?_⟩
  simp only[pts]
  repeat (first|(refine lx_one rfl ?_;(first|go_big_quiet_skip|(go_big_quiet_want;go_big_quiet_op;go_big_quiet_on));refine wpQuiet_nil ?_)|(refine lx_skip (by rfl) ?_;simp only[pts]))
  refine lx_call3 ent_isNewI cI rfl rfl rfl (by rfl) ?_
  rintro W1 ⟨hA,hg1⟩
  have k1:Kb [m1,m2] w W1:=(Kb.refl _ _).drew.trans (Kb.of_grown hg1 (by simp))
  refine⟨⟨⟨_,pK _ k1⟩,rfl⟩,?_⟩
  simp only[pts]
  repeat (first|(refine lx_one rfl ?_;(first|go_big_quiet_skip|(go_big_quiet_want;go_big_quiet_op;go_big_quiet_on));refine wpQuiet_nil ?_)|(refine lx_skip (by rfl) ?_;simp only[pts]))
  have q:∀ k,k<w.heap.size->k≠m1->W1.heap[k]?=w.heap[k]?:=fun k hk hne=>hg1.block k hk (by simpa using hne)
  refine lx_call2 ent_isNewName (isNewName_any B gf go n cap g o gt ot m1 m2 m3 nn i rl dep wh t x pc cc hs b W1 (hC.same hg1.size (q B hC.lt nB1)) (hX.same (q go hgo nG1)) (Nat.lt_of_lt_of_le hgo hg1.size) (hT.same (q gt hgt nT1)) (Nat.lt_of_lt_of_le hgt hg1.size) (hM.same (q m2 hM.lt (Ne.symm n12))) nB nG nT hn hnn hx hk.name hi hb.out) rfl rfl (by rfl) ?_
  rintro W2 ⟨hE,hk2⟩
  have k2:Kb [m1,m2] w W2:=k1.trans (hk2.mono (by simp))
  have hA2:=hA.same (hk2.block m1 hA.lt (notin1 n12))
  refine⟨⟨⟨_,pK _ k2⟩,rfl⟩,?_⟩
  simp only[pts]
  repeat (first|(refine lx_one rfl ?_;(first|go_big_quiet_skip|(go_big_quiet_want;go_big_quiet_op;go_big_quiet_on));refine wpQuiet_nil ?_)|(refine lx_skip (by rfl) ?_;simp only[pts]))
  refine lx_done ?_
  go_wp2_with fail
  go_ret
  exact⟨rfl,k2,fun _=>⟨hA2,hE⟩⟩
theorem op_cases (op:Int):(op<0\/15<op)\/op=0\/op=1\/op=2\/op=3\/op=4\/op=5\/op=6\/op=7\/op=8\/op=9\/op=10\/op=11\/op=12\/op=13\/op=14\/op=15:=by omega
theorem endOf_any (op:Int) (w:World) (h:-100<=op/\op<=100):Calls Tryz.prog 122 #[.int .i64 op] w fun r w'=>r = .returned (.int .i64 (op+1))/\w'=w:=by
 have hw:IntKind.i64.wrap (op+1)=op+1:=by rw[IntKind.wrap_i64];omega
 go_enter Tryz.func122,Tryz.ntmps122
 go_wp2_with fail
 go_ret
 exact⟨rfl,rfl⟩
theorem begins_any (op:Int) (w:World) (h:0<=op/\op<=15):Calls Tryz.prog 101 #[.int .i64 op] w fun r w'=>r = .returned (.bool (bgO op))/\w'=w:=by
 rcases op_cases op with h' | rfl|rfl|rfl|rfl|rfl|rfl|rfl|rfl|rfl|rfl|rfl|rfl|rfl|rfl|rfl|rfl
 ·omega
 all_goals
  go_enter Tryz.func101,Tryz.ntmps101
  go_wp2_with fail
  go_ret
  exact⟨rfl,rfl⟩
theorem ends_any (op:Int) (w:World) (h:0<=op/\op<=15):Calls Tryz.prog 97 #[.int .i64 op] w fun r w'=>r = .returned (.bool (edO op))/\w'=w:=by
 rcases op_cases op with h' | rfl|rfl|rfl|rfl|rfl|rfl|rfl|rfl|rfl|rfl|rfl|rfl|rfl|rfl|rfl|rfl
 ·omega
 all_goals
  go_enter Tryz.func97,Tryz.ntmps97
  go_wp2_with fail
  go_ret
  exact⟨rfl,rfl⟩
theorem beqN {b:Int} (h:a≠b):(a==b)=false:=beq_eq_false_iff_ne.2 h
theorem beqD (a b:Int):(a==b)=decide (a=b):=by rw[Bool.eq_iff_iff];simp
theorem isPart_any (op:Int) (w:World):Calls Tryz.prog 123 #[.int .i64 op] w fun r w'=>r = .returned (.bool (ptO op))/\w'=w:=by
 unfold ptO
 by_cases h2:op=2
 ·subst h2
  go_enter Tryz.func123,Tryz.ntmps123
  go_wp2_with fail
  go_ret
  exact⟨rfl,rfl⟩
 have d2:=beqN h2
 by_cases h4:op=4
 ·subst h4
  go_enter Tryz.func123,Tryz.ntmps123
  go_wp2_with fail
  go_ret
  exact⟨rfl,rfl⟩
 have d4:=beqN h4
 go_enter Tryz.func123,Tryz.ntmps123
 go_wp2_with fail
 go_ret
 exact⟨rb (by rw[Bool.eq_iff_iff];simp[h2,h4]),rfl⟩
theorem isType_any (op:Int) (w:World):Calls Tryz.prog 124 #[.int .i64 op] w fun r w'=>r = .returned (.bool (tyO op))/\w'=w:=by
 unfold tyO
 by_cases h14:op=14
 ·subst h14
  go_enter Tryz.func124,Tryz.ntmps124
  go_wp2_with fail
  go_ret
  exact⟨rfl,rfl⟩
 have d14:=beqN h14
 by_cases h10:op=10
 ·subst h10
  go_enter Tryz.func124,Tryz.ntmps124
  go_wp2_with fail
  go_ret
  exact⟨rfl,rfl⟩
 have d10:=beqN h10
 by_cases h12:op=12
 ·subst h12
  go_enter Tryz.func124,Tryz.ntmps124
  go_wp2_with fail
  go_ret
  exact⟨rfl,rfl⟩
 have d12:=beqN h12
 go_enter Tryz.func124,Tryz.ntmps124
 go_wp2_with fail
 go_ret
 exact⟨rb (by rw[Bool.eq_iff_iff];simp[h14,h10,h12]),rfl⟩
structure Cf where
 B:Nat
 gf:Nat
 go:Nat
 cap:Nat
 g:Nat
 o:Nat
 cp:Nat
 m1:Nat
 m2:Nat
 m3:Nat
 H:Nat
 i:Nat
structure Apart (c:Cf):Prop where
 g:c.g<c.H
 gf:c.H<=c.gf
 B:c.H<=c.B
 go:c.H<=c.go
 m1:c.H<=c.m1
 m2:c.H<=c.m2
 m3:c.H<=c.m3
 fB:c.gf≠c.B
 fo:c.gf≠c.go
 f1:c.gf≠c.m1
 f2:c.gf≠c.m2
 f3:c.gf≠c.m3
 Bo:c.B≠c.go
 B1:c.B≠c.m1
 B2:c.B≠c.m2
 B3:c.B≠c.m3
 o1:c.go≠c.m1
 o2:c.go≠c.m2
 o3:c.go≠c.m3
 m12:c.m1≠c.m2
 m13:c.m1≠c.m3
 m23:c.m2≠c.m3
structure Ct (w:World) (c:Cf) (f:Fm) (L:List Sv) (x:Sv) (xt t:Tk) (rl:Value) (dep:Nat->Int) (wh:Bool):Prop where
 ck:CkC w c.B c.gf (.slice (some ⟨c.go,0,none⟩) (L.length+1) c.cap) (c.i:Int) rl c.m1 c.m2 c.m3 dep wh
 op:OpR w c.g c.o c.go c.cap (L++[x])
 fm:FmC w c.gf 0 f (some ⟨c.g,c.o,none⟩) c.cp
 tl:TkL w (some ⟨c.g,c.o,none⟩) c.H f.toks
 hx:f.toks[x.at_]?=some xt
 ht:f.toks[c.i]?=some t
 ap:Apart c
 kt:KT w
 sz:c.H<=w.heap.size
 fl:c.gf<w.heap.size
 k0:1<c.H
 ln:L.length<1000000000000
theorem KT.same (h:KT w) (hs:w.heap.size<=w'.heap.size) (hb:w'.heap[1]?=w.heap[1]?):KT w' :=
 ⟨Nat.lt_of_lt_of_le h.pos hs,fun p hp=>(cell_blk hb).trans (h.size p hp),fun p hp=>(cell_blk hb).trans (h.reading p hp),fun p hp=>(cell_blk hb).trans (h.null p hp),fun p hp=>(cell_blk hb).trans (h.least p hp),fun p hp=>(cell_blk hb).trans (h.most p hp)⟩
section
variable {w w':World} {c:Cf} {f:Fm} {L:List Sv} {x x':Sv} {xt t:Tk} {rl:Value} {dep:Nat->Int} {wh:Bool}
theorem Ct.lg (h:Ct w c f L x xt t rl dep wh):c.g<w.heap.size:=Nat.lt_of_lt_of_le h.ap.g h.sz
theorem Ct.ll (h:Ct w c f L x xt t rl dep wh):f.toks.length<=733007751850:=by have:=h.tl.len;omega
theorem Ct.il (h:Ct w c f L x xt t rl dep wh):c.i<f.toks.length:=(List.getElem?_eq_some_iff.1 h.ht).1
theorem Ct.xl (h:Ct w c f L x xt t rl dep wh):x.at_<f.toks.length:=(List.getElem?_eq_some_iff.1 h.hx).1
theorem Ct.kept (h:Ct w c f L x xt t rl dep wh) (hb:Kb E w w') (hE:∀ k∈E,k=c.m1\/k=c.m2\/k=c.m3):Ct w' c f L x xt t rl dep wh:=by
 have a:=h.ap
 have nB:c.B∉E:=fun e=>(hE _ e).elim a.B1 fun e=>e.elim a.B2 a.B3
 have no:c.go∉E:=fun e=>(hE _ e).elim a.o1 fun e=>e.elim a.o2 a.o3
 have nf:c.gf∉E:=fun e=>(hE _ e).elim a.f1 fun e=>e.elim a.f2 a.f3
 have nl:∀ k,k<c.H->k∉E:=fun k hk e=>by have:=a.m1;have:=a.m2;have:=a.m3;rcases hE _ e with e|e|e<;>omega
 exact⟨h.ck.same hb.size (hb.block _ h.ck.lt nB),h.op.same (hb.block _ h.op.lt no),h.fm.same (hb.block _ h.fl nf),⟨h.tl.row.same fun k hk=>hb.block k (Nat.lt_of_lt_of_le hk h.sz) (nl k hk),h.tl.len,h.tl.ok⟩,h.hx,h.ht,h.ap,h.kt.same hb.size (hb.block _ (Nat.lt_of_lt_of_le h.k0 h.sz) (nl _ h.k0)),Nat.le_trans h.sz hb.size,Nat.lt_of_lt_of_le h.fl hb.size,h.k0,h.ln⟩
theorem Ct.below (h:Ct w c f L x xt t rl dep wh) (hb:Below w.heap.size w w'):Ct w' c f L x xt t rl dep wh:=h.kept (E:=[]) (Kb.of_below hb) (fun _ e=>absurd e List.not_mem_nil)
theorem Ct.tk (h:Ct w c f L x xt t rl dep wh):∃ pc cc,TkC w c.g (c.o+c.i*21) t pc cc/\URow w pc c.H t.cst/\t.cst.length<=cc/\TkOk t:=by
 obtain⟨g,o,pc,cc,e,_,h1,h2,h3,h4⟩:=h.tl.at h.ht
 cases e
 exact⟨pc,cc,h1,h2,h3,h4⟩
theorem Ct.xk (h:Ct w c f L x xt t rl dep wh):∃ pc cc,TkC w c.g (c.o+x.at_*21) xt pc cc/\TkOk xt:=by
 obtain⟨g,o,pc,cc,e,_,h1,_,_,h4⟩:=h.tl.at h.hx
 cases e
 exact⟨pc,cc,h1,h4⟩
theorem Ct.sc (h:Ct w c f L x xt t rl dep wh):ScC w c.g c.o c.go (L.length*8) x:=h.op.last
theorem OpR.frz {l:List Sv} (h:OpR w g o go cap l) (j:Nat):w.frozen? ⟨go,j,none⟩=false:=by
 obtain⟨cur,h1,_⟩:=h.ex
 simp[World.frozen?,h1]
theorem Ct.wrote (h:Ct w c f L x xt t rl dep wh) {j:Nat} (hj:j<8) (hx:svC c.g c.o x'=(svC c.g c.o x).set j v) (ha:x'.at_=x.at_):Ct (w.setCell ⟨c.go,L.length*8+j,none⟩ v) c f L x' xt t rl dep wh:=by
 have hb:Kb [c.go] w (w.setCell ⟨c.go,L.length*8+j,none⟩ v):=(Kb.refl _ _).set (List.mem_singleton.2 rfl) v
 have a:=h.ap
 have nl:∀ k,k<c.H->k∉[c.go]:=fun k hk e=>by have:=a.go;have:=List.mem_singleton.1 e;omega
 exact⟨h.ck.same hb.size (hb.block _ h.ck.lt (notin1 a.Bo)),h.op.set hj hx,h.fm.same (hb.block _ h.fl (notin1 a.fo)),⟨h.tl.row.same fun k hk=>hb.block k (Nat.lt_of_lt_of_le hk h.sz) (nl k hk),h.tl.len,h.tl.ok⟩,by rw[ha];exact h.hx,h.ht,h.ap,h.kt.same hb.size (hb.block _ (Nat.lt_of_lt_of_le h.k0 h.sz) (nl _ h.k0)),Nat.le_trans h.sz hb.size,Nat.lt_of_lt_of_le h.fl hb.size,h.k0,h.ln⟩
end
def ckA (gf:Nat) (op:Value) (i:Int) (rl:Value) (m1 m2 m3:Nat) (dep:Nat->Int) (wh:Bool):Array Value:=#[op,.pointer (some ⟨gf,0,none⟩),.int .i64 i,rl,.int .i64 (dep 0),.int .i64 (dep 1),.int .i64 (dep 2),.int .i64 (dep 3),.int .i64 (dep 4),.int .i64 (dep 5),.int .i64 (dep 6),.int .i64 (dep 7),.int .i64 (dep 8),.int .i64 (dep 9),.int .i64 (dep 10),.int .i64 (dep 11),.int .i64 (dep 12),.int .i64 (dep 13),.int .i64 (dep 14),.int .i64 (dep 15),.map (some m1),.map (some m2),.map (some m3),.bool wh]
def CkH (w:World) (B gf:Nat) (op:Value) (i:Int) (rl:Value) (m1 m2 m3:Nat) (dep:Nat->Int) (wh:Bool):Prop:=w.heap[B]?=some (.cells (ckA gf op i rl m1 m2 m3 dep wh) 134 (0,0))
section
variable {w:World} {B gf:Nat} {op:Value} {i:Int} {rl:Value} {m1 m2 m3:Nat} {dep:Nat->Int} {wh:Bool}
theorem CkH.lt (h:CkH w B gf op i rl m1 m2 m3 dep wh):B<w.heap.size:=(Array.getElem?_eq_some_iff.1 h).1
theorem CkH.cell (h:CkH w B gf op i rl m1 m2 m3 dep wh) (k:Nat):w.cell? ⟨B,k,none⟩=(ckA gf op i rl m1 m2 m3 dep wh)[k]?:=cell_at h k
theorem CkH.ck (h:CkH w B gf op i rl m1 m2 m3 dep wh):CkC w B gf op i rl m1 m2 m3 dep wh :=
 ⟨h.lt,h.cell 0,h.cell 1,h.cell 2,h.cell 3,fun q hq=>by
  rw[h.cell]
  rcases(show q=0\/q=1\/q=2\/q=3\/q=4\/q=5\/q=6\/q=7\/q=8\/q=9\/q=10\/q=11\/q=12\/q=13\/q=14\/q=15 by omega) with rfl|rfl|rfl|rfl|rfl|rfl|rfl|rfl|rfl|rfl|rfl|rfl|rfl|rfl|rfl|rfl<;>rfl,h.cell 20,h.cell 21,h.cell 22,h.cell 23⟩
theorem CkH.frz (h:CkH w B gf op i rl m1 m2 m3 dep wh) (k:Nat):w.frozen? ⟨B,k,none⟩=false:=by
 unfold CkH at h
 simp[World.frozen?,h]
theorem CkH.same (h:CkH w B gf op i rl m1 m2 m3 dep wh) (hb:w'.heap[B]?=w.heap[B]?):CkH w' B gf op i rl m1 m2 m3 dep wh:=hb.trans h
theorem CkH.put (h:CkH w B gf op i rl m1 m2 m3 dep wh) (k:Nat) (v:Value):(w.setCell ⟨B,k,none⟩ v).heap[B]?=some (.cells ((ckA gf op i rl m1 m2 m3 dep wh).setIfInBounds k v) 134 (0,0)):=by
 show (w.heap.modify B _)[B]?=_
 unfold CkH at h
 rw[Array.getElem?_modify,if_pos rfl,h]
 rfl
theorem CkH.setOp (h:CkH w B gf op i rl m1 m2 m3 dep wh) (v:Value):CkH (w.setCell ⟨B,0,none⟩ v) B gf v i rl m1 m2 m3 dep wh:=h.put 0 v
theorem CkH.setPlace (h:CkH w B gf op i rl m1 m2 m3 dep wh) (j:Int):CkH (w.setCell ⟨B,2,none⟩ (.int .i64 j)) B gf op j rl m1 m2 m3 dep wh:=h.put 2 _
theorem CkH.setWh (h:CkH w B gf op i rl m1 m2 m3 dep wh) (b:Bool):CkH (w.setCell ⟨B,23,none⟩ (.bool b)) B gf op i rl m1 m2 m3 dep b:=h.put 23 _
theorem CkH.setDep (h:CkH w B gf op i rl m1 m2 m3 dep wh) (q:Nat) (hq:q<16) (v:Int):CkH (w.setCell ⟨B,4+q,none⟩ (.int .i64 v)) B gf op i rl m1 m2 m3 (fun k=>if k=q then v else dep k) wh:=by
 have:=h.put (4+q) (.int .i64 v)
 unfold CkH
 rw[this]
 rcases(show q=0\/q=1\/q=2\/q=3\/q=4\/q=5\/q=6\/q=7\/q=8\/q=9\/q=10\/q=11\/q=12\/q=13\/q=14\/q=15 by omega) with rfl|rfl|rfl|rfl|rfl|rfl|rfl|rfl|rfl|rfl|rfl|rfl|rfl|rfl|rfl|rfl<;>rfl
end
theorem set_oth {B:Nat} (h:b≠B):(w.setCell ⟨b,o,none⟩ v).heap[B]?=w.heap[B]?:=by
 show (w.heap.modify b _)[B]?=_
 rw[Array.getElem?_modify,if_neg h]
theorem Kb.setNew {a b:World} (h:Kb E a b) (hg:a.heap.size<=g) (v:Value):Kb E a (b.setCell ⟨g,o,none⟩ v):=by
 refine⟨h.os,h.tape,h.output,?_,fun k hk he=>?_⟩
 ·show a.heap.size<=(b.heap.modify g _).size
  rw[Array.size_modify];exact h.size
 ·rw[set_oth (by omega)]
  exact h.block k hk he
abbrev svV (g o:Nat) (x:Sv):Value:=.agg #[.pointer (some ⟨g,o+x.at_*21,none⟩),.int .i64 (x.at_:Int),.int .i64 x.cnt,.int .i64 x.last,.int .i64 x.fld,.int .i64 x.row,.int .i64 x.en,.int .i64 x.cod]
theorem pop_any (B gf go n cap g o m1 m2 m3:Nat) (i:Int) (rl:Value) (dep:Nat->Int) (wh:Bool) (x:Sv) (w:World) (hH:CkH w B gf (.slice (some ⟨go,0,none⟩) (n+1) cap) i rl m1 m2 m3 dep wh) (hX:ScC w g o go (n*8) x) (hgo:go<w.heap.size) (hn:n<1000000000000) (hcap:n+1<=cap) :
  Calls Tryz.prog 98 #[.pointer (some ⟨B,0,none⟩)] w fun r w'=>r = .returned (svV g o x)/\CkH w' B gf (.slice (some ⟨go,0,none⟩) n cap) i rl m1 m2 m3 dep wh/\Kb [B] w w':=by
 have hBl:=hH.lt
 have cT:=fun W (hW:Below w.heap.size w W)=>top_any B go n cap W ((hW.cell (p:=⟨B,0,none⟩) hBl).trans (hH.cell 0)) hn
 have hY:∀ W,Below w.heap.size w W->ScC W g o go (n*8) x:=fun W hW=>hX.same (hW.block go hgo)
 go_enter Tryz.func98,Tryz.ntmps98
 go_wp2_with (go_at_call 100;refine(cT _ (bel1 _ _)).mono ?_;rintro _ w1 ⟨rfl,hb⟩;have hb1:Below w.heap.size w w1:=(bel1 _ _).trans (hb.mono (al_le _ _));obtain⟨y0,y1,y2,y3,y4,y5,y6,y7⟩:=hY _ hb1)
 have b0:w1.cell? ⟨B,0,none⟩=some (.slice (some ⟨go,0,none⟩) (n+1) cap):=(hb1.cell (p:=⟨B,0,none⟩) hBl).trans (hH.cell 0)
 have e1:((n+1:Nat):Int)-1=(n:Int):=by omega
 have hB1:B<w1.heap.size:=Nat.lt_of_lt_of_le hBl hb1.size
 clear y0 y1 y2 y3 y4 y5 y6 y7 hY cT
 have fz:w1.frozen? ⟨B,0,none⟩=false:=(hH.same (hb1.block B hBl)).frz 0
 have hw0:w.heap.size<w1.heap.size:=Nat.lt_of_lt_of_le (szal _ _) hb.size
 have hBw:B≠w.heap.size:=by omega
 have hBw1:B≠w1.heap.size:=by omega
 go_region
 have hz1:w1.heap[w.heap.size]?=some (.cells #[.pointer none,.int .i64 0,.int .i64 0,.int .i64 0,.int .i64 0,.int .i64 0,.int .i64 0,.int .i64 0] 149):=(hb.block _ (by rw[World.size_alloc];omega)).trans (heap_al _ _)
 have hs1:(w1.setCell ⟨B,0,none⟩ (.slice (some ⟨go,0,none⟩) n cap)).heap.size=w1.heap.size:=by show (w1.heap.modify B _).size=_;rw[Array.size_modify]
 have k1:Kb [B] w (w1.setCell ⟨B,0,none⟩ (.slice (some ⟨go,0,none⟩) n cap)):=(Kb.of_below hb1).set (List.mem_singleton.2 rfl) _
 have k3:Kb [B] w (((w1.setCell ⟨B,0,none⟩ (.slice (some ⟨go,0,none⟩) n cap)).alloc (.cells #[.pointer (some ⟨g,o+x.at_*21,none⟩),.int .i64 (x.at_:Int),.int .i64 x.cnt,.int .i64 x.last,.int .i64 x.fld,.int .i64 x.row,.int .i64 x.en,.int .i64 x.cod] 149)).drew):=(k1.alloc _).drew
 have c3:CkH (((w1.setCell ⟨B,0,none⟩ (.slice (some ⟨go,0,none⟩) n cap)).alloc (.cells #[.pointer (some ⟨g,o+x.at_*21,none⟩),.int .i64 (x.at_:Int),.int .i64 x.cnt,.int .i64 x.last,.int .i64 x.fld,.int .i64 x.row,.int .i64 x.en,.int .i64 x.cod] 149)).drew) B gf (.slice (some ⟨go,0,none⟩) n cap) i rl m1 m2 m3 dep wh:=((hH.same (hb1.block B hBl)).setOp _).same ((bel1 _ _).block B (by rw[hs1];exact hB1))
 have l3:(((w1.setCell ⟨B,0,none⟩ (.slice (some ⟨go,0,none⟩) n cap)).alloc (.cells #[.pointer (some ⟨g,o+x.at_*21,none⟩),.int .i64 (x.at_:Int),.int .i64 x.cnt,.int .i64 x.last,.int .i64 x.fld,.int .i64 x.row,.int .i64 x.en,.int .i64 x.cod] 149)).drew).heap[w1.heap.size]?=some (.cells #[.pointer (some ⟨g,o+x.at_*21,none⟩),.int .i64 (x.at_:Int),.int .i64 x.cnt,.int .i64 x.last,.int .i64 x.fld,.int .i64 x.row,.int .i64 x.en,.int .i64 x.cod] 149):=by
  rw[<- hs1]
  exact heap_al _ _
 have z3:(((w1.setCell ⟨B,0,none⟩ (.slice (some ⟨go,0,none⟩) n cap)).alloc (.cells #[.pointer (some ⟨g,o+x.at_*21,none⟩),.int .i64 (x.at_:Int),.int .i64 x.cnt,.int .i64 x.last,.int .i64 x.fld,.int .i64 x.row,.int .i64 x.en,.int .i64 x.cod] 149)).drew).heap[w.heap.size]?=some (.cells #[.pointer none,.int .i64 0,.int .i64 0,.int .i64 0,.int .i64 0,.int .i64 0,.int .i64 0,.int .i64 0] 149):=by
  refine((bel1 _ _).block w.heap.size (by rw[hs1];exact hw0)).trans ?_
  show (w1.heap.modify B _)[w.heap.size]?=_
  rw[Array.getElem?_modify,if_neg hBw]
  exact hz1
 generalize (((w1.setCell ⟨B,0,none⟩ (.slice (some ⟨go,0,none⟩) n cap)).alloc (.cells #[.pointer (some ⟨g,o+x.at_*21,none⟩),.int .i64 (x.at_:Int),.int .i64 x.cnt,.int .i64 x.last,.int .i64 x.fld,.int .i64 x.row,.int .i64 x.en,.int .i64 x.cod] 149)).drew)=W3 at k3 c3 l3 z3 ⊢
 have l_0:W3.cell? ⟨w1.heap.size,0,none⟩=some (.pointer (some ⟨g,o+x.at_*21,none⟩)):=cell_at l3 0
 have z_0:W3.cell? ⟨w.heap.size,0,none⟩=some (.pointer none):=cell_at z3 0
 have f_0:W3.frozen? ⟨w.heap.size,0,none⟩=false:=by simp[World.frozen?,z3]
 have l_1:W3.cell? ⟨w1.heap.size,1,none⟩=some (.int .i64 (x.at_:Int)):=cell_at l3 1
 have z_1:W3.cell? ⟨w.heap.size,1,none⟩=some (.int .i64 0):=cell_at z3 1
 have f_1:W3.frozen? ⟨w.heap.size,1,none⟩=false:=by simp[World.frozen?,z3]
 have l_2:W3.cell? ⟨w1.heap.size,2,none⟩=some (.int .i64 x.cnt):=cell_at l3 2
 have z_2:W3.cell? ⟨w.heap.size,2,none⟩=some (.int .i64 0):=cell_at z3 2
 have f_2:W3.frozen? ⟨w.heap.size,2,none⟩=false:=by simp[World.frozen?,z3]
 have l_3:W3.cell? ⟨w1.heap.size,3,none⟩=some (.int .i64 x.last):=cell_at l3 3
 have z_3:W3.cell? ⟨w.heap.size,3,none⟩=some (.int .i64 0):=cell_at z3 3
 have f_3:W3.frozen? ⟨w.heap.size,3,none⟩=false:=by simp[World.frozen?,z3]
 have l_4:W3.cell? ⟨w1.heap.size,4,none⟩=some (.int .i64 x.fld):=cell_at l3 4
 have z_4:W3.cell? ⟨w.heap.size,4,none⟩=some (.int .i64 0):=cell_at z3 4
 have f_4:W3.frozen? ⟨w.heap.size,4,none⟩=false:=by simp[World.frozen?,z3]
 have l_5:W3.cell? ⟨w1.heap.size,5,none⟩=some (.int .i64 x.row):=cell_at l3 5
 have z_5:W3.cell? ⟨w.heap.size,5,none⟩=some (.int .i64 0):=cell_at z3 5
 have f_5:W3.frozen? ⟨w.heap.size,5,none⟩=false:=by simp[World.frozen?,z3]
 have l_6:W3.cell? ⟨w1.heap.size,6,none⟩=some (.int .i64 x.en):=cell_at l3 6
 have z_6:W3.cell? ⟨w.heap.size,6,none⟩=some (.int .i64 0):=cell_at z3 6
 have f_6:W3.frozen? ⟨w.heap.size,6,none⟩=false:=by simp[World.frozen?,z3]
 have l_7:W3.cell? ⟨w1.heap.size,7,none⟩=some (.int .i64 x.cod):=cell_at l3 7
 have z_7:W3.cell? ⟨w.heap.size,7,none⟩=some (.int .i64 0):=cell_at z3 7
 have f_7:W3.frozen? ⟨w.heap.size,7,none⟩=false:=by simp[World.frozen?,z3]
 replace k3:=Hid.mk k3
 replace c3:=Hid.mk c3
 clear b0 fz hb hb1 hH hX
 go_wp2_with fail
 refine bodyPost_ret (v:=svV g o x) ?_ rfl ⟨rfl,?_,?_⟩
 ·simp[results,Tryz.results98,go_sem,z_0,z_1,z_2,z_3,z_4,z_5,z_6,z_7]
 ·exact(((((((((c3.out.same (set_oth hBw.symm)).same (set_oth hBw.symm)).same (set_oth hBw.symm)).same (set_oth hBw.symm)).same (set_oth hBw.symm)).same (set_oth hBw.symm)).same (set_oth hBw.symm)).same (set_oth hBw.symm)))
 ·exact(((((((k3.out.setNew (Nat.le_refl _) _).setNew (Nat.le_refl _) _).setNew (Nat.le_refl _) _).setNew (Nat.le_refl _) _).setNew (Nat.le_refl _) _).setNew (Nat.le_refl _) _).setNew (Nat.le_refl _) _).setNew (Nat.le_refl _) _
abbrev dmO (f:Fm) (pp:Option Addr) (cp:Nat) (v:Value) (g c a:Int):Obj:=.cells #[.int .i64 f.ord,.int .i64 f.sch,.int .i64 f.ver,.int .i64 f.hsz,.int .i64 f.hb.p,.int .i64 f.hb.o,.int .i64 f.ht.p,.int .i64 f.ht.o,.int .i64 f.hs.p,.int .i64 f.hs.o,.int .i64 f.hv.p,.int .i64 f.hv.o,.slice pp f.toks.length cp,v,.int .i64 g,.int .i64 c,.int .i64 a] 34
abbrev dmA (f:Fm) (pp:Option Addr) (cp:Nat) (v:Value) (g c a:Int):Array Value:=#[.int .i64 f.ord,.int .i64 f.sch,.int .i64 f.ver,.int .i64 f.hsz,.int .i64 f.hb.p,.int .i64 f.hb.o,.int .i64 f.ht.p,.int .i64 f.ht.o,.int .i64 f.hs.p,.int .i64 f.hs.o,.int .i64 f.hv.p,.int .i64 f.hv.o,.slice pp f.toks.length cp,v,.int .i64 g,.int .i64 c,.int .i64 a]
abbrev dmV (f:Fm) (pp:Option Addr) (cp:Nat) (v:Value) (g c a:Int):Value:=.agg #[.int .i64 f.ord,.int .i64 f.sch,.int .i64 f.ver,.int .i64 f.hsz,.int .i64 f.hb.p,.int .i64 f.hb.o,.int .i64 f.ht.p,.int .i64 f.ht.o,.int .i64 f.hs.p,.int .i64 f.hs.o,.int .i64 f.hv.p,.int .i64 f.hv.o,.slice pp f.toks.length cp,v,.int .i64 g,.int .i64 c,.int .i64 a]
abbrev zM:Obj:=.cells #[.int .i64 0,.int .i64 0,.int .i64 0,.int .i64 0,.int .i64 0,.int .i64 0,.int .i64 0,.int .i64 0,.int .i64 0,.int .i64 0,.int .i64 0,.int .i64 0,.slice none 0 0,.slice none 0 0,.int .i64 0,.int .i64 0,.int .i64 0] 34
abbrev zMa:Array Value:=#[.int .i64 0,.int .i64 0,.int .i64 0,.int .i64 0,.int .i64 0,.int .i64 0,.int .i64 0,.int .i64 0,.int .i64 0,.int .i64 0,.int .i64 0,.int .i64 0,.slice none 0 0,.slice none 0 0,.int .i64 0,.int .i64 0,.int .i64 0]
theorem lt_of_blk {o:Obj} (h:W.heap[g]?=some o):g<W.heap.size:=(Array.getElem?_eq_some_iff.1 h).1
theorem froz_of {i:Nat} {cs:Array Value} {ty:TypeId} (h:W.heap[b]?=some (.cells cs ty)):W.frozen? ⟨b,i,none⟩=false:=by simp[World.frozen?,h]
theorem set_blkD {g:Int} (h:W.heap[b]?=some (dmO f pp cp v g c a)) (u:Value):(W.setCell ⟨b,13,none⟩ u).heap[b]?=some (dmO f pp cp u g c a):=by
 show (W.heap.modify b _)[b]?=_
 rw[Array.getElem?_modify,if_pos rfl,h]
 rfl
theorem infoDM:(Tryz.prog.info? 34).map (·.size)=some 17:=by kernel_rfl
theorem dm_one (f:Fm) (pp:Option Addr) (cp:Nat) (p:Option Addr) (n k:Nat) (g c a:Int):(dmA f pp cp (.slice p n k) g c a).all (·.oneCell')=true:=by kernel_rfl
theorem dm_ld {g:Int} (h:w.heap[b]?=some (dmO f pp cp v g c a)):(Instr.loadAt 34 (.pointer (some ⟨b,0,none⟩))).run Tryz.prog w = .ok (dmV f pp cp v g c a) w:=by
 simp only[Instr.loadAt,Instr.sureAddr,Sem.run_bind,Sem.run_pure,Result.andThen]
 exact run_loadVar_row _ _ _ _ _ _ _ h Tryz.underlying34 rfl infoDM
theorem dm_st {old:Array Value} (hb:w.heap[b]?=some (.cells old 34)) (ho:old.size=17) (f:Fm) (pp:Option Addr) (cp:Nat) (p:Option Addr) (n k:Nat) (g c a:Int):(Instr.storeAt 34 (.pointer (some ⟨b,0,none⟩)) (dmV f pp cp (.slice p n k) g c a)).run Tryz.prog w = .ok () (w.setRow b (dmA f pp cp (.slice p n k) g c a)):=by
 simp only[Instr.storeAt,Instr.sureAddr,Sem.run_bind,Sem.run_pure,Result.andThen]
 exact run_storeVar_row _ _ _ _ _ _ hb infoDM (by rw[ho];rfl) (dm_one f pp cp p n k g c a)
theorem dm_new (w:World) (z:Array Value) (hz:z.size=17) (f:Fm) (pp:Option Addr) (cp:Nat) (p:Option Addr) (n k:Nat) (g c a:Int):(Instr.storeAt 34 (.pointer (some ⟨w.heap.size,0,none⟩)) (dmV f pp cp (.slice p n k) g c a)).run Tryz.prog (w.alloc (.cells z 34)) = .ok () (w.alloc (dmO f pp cp (.slice p n k) g c a)) :=
 run_storeAt_new w 34 z (dmA f pp cp (.slice p n k) g c a) infoDM hz (dm_one f pp cp p n k g c a)
theorem dm_form {g:Int} (h:w.heap[b]?=some (dmO f pp cp v g c a)):FmC w b 0 f pp cp :=
 ⟨cell_at h 0,cell_at h 1,cell_at h 2,cell_at h 3,cell_at h 4,cell_at h 5,cell_at h 6,cell_at h 7,cell_at h 8,cell_at h 9,cell_at h 10,cell_at h 11,cell_at h 12⟩
structure DS (W:World) (b go cap:Nat) (f:Fm) (pp:Option Addr) (cp:Nat) (zs:List DL) (g:Nat) (c a:Int):Prop where
 c:W.heap[b]?=some (dmO f pp cp (.slice (some ⟨go,0,none⟩) zs.length cap) (g:Int) c a)
 o:DOp W go cap zs
 ne:b≠go
 zl:zs.length<=1000000
 z1:0<zs.length
theorem DS.lt (h:DS W b go cap f pp cp zs g c a):b<W.heap.size/\go<W.heap.size:=⟨(Array.getElem?_eq_some_iff.1 h.c).1,h.o.lt⟩
theorem DS.same (h:DS W b go cap f pp cp zs g c a) (h1:W'.heap[b]?=W.heap[b]?) (h2:W'.heap[go]?=W.heap[go]?):DS W' b go cap f pp cp zs g c a:=⟨h1.trans h.c,h.o.same h2,h.ne,h.zl,h.z1⟩
theorem DS.below (h:DS W b go cap f pp cp zs g c a) (hb:Below W.heap.size W W'):DS W' b go cap f pp cp zs g c a:=h.same (hb.block _ h.lt.1) (hb.block _ h.lt.2)
theorem infoLv:(Tryz.prog.info? 55).map (fun i=>(i.zero,i.size,i.bytes))=some (some (.agg #[.int .i64 0,.int .i64 0,.int .i64 0,.bool false]),4,32):=by kernel_rfl
theorem own_dl {base:Nat} {l:List DL} (h:W.ownsRow base 55 4 v l.length (dlCs l)) (hl:0<l.length):∃ go cap,v = .slice (some ⟨go,0,none⟩) l.length cap/\DOp W go cap l/\base<=go:=by
 rcases h.2 with ⟨_,h0⟩|⟨go,cap,cur,e,hb',hg,h1,h2,h3,h4⟩
 ·omega
 ·exact⟨go,cap,e,⟨cur,hg,h1,h2,h3,h4⟩,hb'⟩
theorem DOp.own {H:Nat} (h:DOp W go cap zs) (hH:H<=go):W.ownsRow H 55 4 (.slice (some ⟨go,0,none⟩) zs.length cap) zs.length (dlCs zs):=by
 obtain⟨cur,h1,h2,h3,h4,h5⟩:=h
 exact⟨dlCs_length _,.inr ⟨go,cap,cur,rfl,hH,h1,h2,h3,h4,h5⟩⟩
theorem dl_cp {g0:Nat} (hb:b<=g0) (hg:W.heap[g0]?=some (.cells #[] 55)) (h:DOp W go cap zs) (hl:zs.length<=1000000) (h1:0<zs.length) (hbs:b<=W.heap.size) :
  ∃ v' w',(∀ ty,(Builtin.append_ #[32,32] ty #[.slice (some ⟨g0,0,none⟩) 0 0,.slice (some ⟨go,0,none⟩) zs.length cap]).run Tryz.prog W = .ok v' w')/\(∃ go' cap',v' = .slice (some ⟨go',0,none⟩) zs.length cap'/\DOp w' go' cap' zs/\b<=go'/\(go'=g0\/go'=W.heap.size))/\Below b W w'/\(∀ k,k<W.heap.size->k≠g0->w'.heap[k]?=W.heap[k]?):=by
 obtain⟨i0,hi0,hz0⟩:=Option.map_eq_some_iff.1 infoLv
 simp only[Prod.mk.injEq] at hz0
 have hO:=own_mt (b:=b) 4 hb hg
 have hN:∀ (j:Nat) (u:Value),(dlCs zs)[j]?=some u->W.cell? ((⟨go,0,none⟩:Addr).add j)=some u:=by
  intro j u hu
  obtain⟨cur,h1,h2,h3,h4,h5⟩:=h
  have e:(⟨go,0,none⟩:Addr).add j=⟨go,0+j,none⟩:=by unfold Addr.add;split<;>simp_all
  rw[e,Nat.zero_add,cell_at h1,<- Array.getElem?_toList]
  rw[<- h5,List.getElem?_take] at hu
  split at hu
  ·exact hu
  ·cases hu
 have hr:=run_append_own_at (P:=Tryz.prog) W b 32 0 55 i0 _ 4 32 Tryz.underlying32 hi0 hz0.1 hz0.2.1 hz0.2.2 rfl (by decide) (.slice (some ⟨g0,0,none⟩) 0 0) 0 [] hO ⟨go,0,none⟩ zs.length cap (dlCs zs) (dlCs_length zs) hN (dlCs_one zs) (by simp only[maxLen];omega) (by omega) hbs
 obtain⟨v',w',q1,q2,q3,_,q5⟩:=hr
 rw[Nat.zero_add,List.nil_append] at q2
 obtain⟨go',cap',rfl,q6,q7⟩:=own_dl q2 h1
 refine⟨_,w',fun _=>q1,⟨go',cap',rfl,q6,q7,?_⟩,⟨q3.os,q3.tape,q3.output,q3.size,fun k hk=>q3.block k (by omega) (fun e=>by simp[Value.ownBlock] at e;omega)⟩,fun k hk hne=>q3.block k hk (fun e=>by simp[Value.ownBlock] at e;omega)⟩
 rcases q5 with q5|q5
 ·exact .inl (by simpa[Value.ownBlock] using q5)
 ·exact .inr (by simpa[Value.ownBlock] using q5)
structure CpD (f:Fm) (pp:Option Addr) (cp:Nat) (zs:List DL) (g:Nat) (c a:Int) (w:World) (go:Nat) (cap:Nat) (w':World):Prop where
 o:DOp w' go cap zs
 ge:w.heap.size<=go
 b:Below w.heap.size w w'
theorem dCopy_any (h:DS w b go cap f pp cp zs g c a) :
  Calls Tryz.prog 8 #[.pointer (some ⟨b,0,none⟩)] w fun r w'=>∃ go' cap',r = .returned (dmV f pp cp (.slice (some ⟨go',0,none⟩) zs.length cap') (g:Int) c a)/\CpD f pp cp zs g c a w go' cap' w':=by
 have L1:=fun W (hW:Below w.heap.size w W)=>dm_ld (h.below hW).c
 have S1:=fun z hz=>dm_new (w.alloc zM) z hz f pp cp (some ⟨go,0,none⟩) zs.length cap (g:Int) c a
 have es:(w.alloc zM).heap.size=w.heap.size+1:=World.size_alloc _ _
 rw[es] at S1
 clear es
 have LA:=L1 (w.alloc zM) (bel1 _ _)
 have hW2:Hid (Below w.heap.size w ((w.alloc zM).alloc (dmO f pp cp (.slice (some ⟨go,0,none⟩) zs.length cap) (g:Int) c a))):=⟨two_b _ _ _⟩
 have hz1:((w.alloc zM).alloc (dmO f pp cp (.slice (some ⟨go,0,none⟩) zs.length cap) (g:Int) c a)).heap[w.heap.size]?=some zM:=two_1 _ _ _
 have hz2:((w.alloc zM).alloc (dmO f pp cp (.slice (some ⟨go,0,none⟩) zs.length cap) (g:Int) c a)).heap[w.heap.size+1]?=some (dmO f pp cp (.slice (some ⟨go,0,none⟩) zs.length cap) (g:Int) c a):=two_2 _ _ _
 have hzs:((w.alloc zM).alloc (dmO f pp cp (.slice (some ⟨go,0,none⟩) zs.length cap) (g:Int) c a)).heap.size=w.heap.size+2:=by simp
 have hbl:=h.lt.1
 have b13:((w.alloc zM).alloc (dmO f pp cp (.slice (some ⟨go,0,none⟩) zs.length cap) (g:Int) c a)).cell? ⟨b,13,none⟩=some (.slice (some ⟨go,0,none⟩) zs.length cap):=cell_at (h.below hW2.out).c 13
 have D2:=(h.below hW2.out).o
 have z1:=h.z1
 have zl:=h.zl
 clear L1 h
 generalize hV:(w.alloc zM).alloc (dmO f pp cp (.slice (some ⟨go,0,none⟩) zs.length cap) (g:Int) c a)=V at S1 hW2 hz1 hz2 hzs b13 D2
 have hap:Hid _:=⟨dl_cp (b:=w.heap.size) (g0:=V.heap.size) (W:=V.alloc (.cells #[] 55)) (by omega) (heap_al _ _) (D2.same ((bel1 _ _).block _ D2.lt)) zl z1 (by simp;omega)⟩
 have b13':=((bel1 V (.cells #[] 55)).cell (p:=⟨b,13,none⟩) (by show b<V.heap.size;omega)).trans b13
 have H1:Hid ((V.alloc (.cells #[] 55)).heap[w.heap.size]?=some zM):=⟨((bel1 _ _).block _ (by omega)).trans hz1⟩
 have H2:Hid ((V.alloc (.cells #[] 55)).heap[w.heap.size+1]?=some (dmO f pp cp (.slice (some ⟨go,0,none⟩) zs.length cap) (g:Int) c a)):=⟨((bel1 _ _).block _ (by omega)).trans hz2⟩
 have H3:Hid (Below w.heap.size w (V.alloc (.cells #[] 55))):=⟨hW2.out.trans ((bel1 _ _).mono (by omega))⟩
 have HS:Hid (V.heap.size=w.heap.size+2):=⟨hzs⟩
 clear hz1 hz2 hzs D2 b13 hW2
 go_enter Tryz.func8,Tryz.ntmps8
 go_wp2_with (first
  | (guard_target =~ wpList _ _ _ (Oper.mk _ (Op.load 34 _) _ _ _ _::_) _ _;go_must (refine wpList_ld 34 _ rfl rfl _ _ rfl LA ?_);simp only[pts])
  | (guard_target =~ wpList _ _ _ (Oper.mk _ (Op.store 34 _ _) _ _ _ _::_) _ _;go_must (refine wpList_st 34 _ _ rfl rfl _ _ rfl rfl (S1 _ rfl) ?_);simp only[pts])
  | (at_builtin;refine(ap_step (by rfl) _ _ _ _ (by rfl) _ _ (by rfl) (by rfl) _ hap.out ?hK)))
 case hK =>
 intro v' w5 go' cap' hv q1 q2 q3 q4 q5
 subst hv
 have K1:Hid (w5.heap[w.heap.size]?=some zM):=⟨(q5 _ (by have:=HS.out;omega) (by have:=HS.out;omega)).trans H1.out⟩
 have K2:Hid (w5.heap[w.heap.size+1]?=some (dmO f pp cp (.slice (some ⟨go,0,none⟩) zs.length cap) (g:Int) c a)):=⟨(q5 _ (by have:=HS.out;omega) (by have:=HS.out;omega)).trans H2.out⟩
 have k13:w5.cell? ⟨w.heap.size+1,13,none⟩=_:=cell_at K2.out 13
 have kf:w5.frozen? ⟨w.heap.size+1,13,none⟩=false:=froz_of K2.out
 have K1':Hid ((w5.setCell ⟨w.heap.size+1,13,none⟩ (.slice (some ⟨go',0,none⟩) zs.length cap')).heap[w.heap.size]?=some zM):=⟨(set_oth (by omega)).trans K1.out⟩
 have LB:=dm_ld (set_blkD K2.out (.slice (some ⟨go',0,none⟩) zs.length cap'))
 have S2:=dm_st (old:=zMa) K1'.out rfl f pp cp (some ⟨go',0,none⟩) zs.length cap' (g:Int) c a
 have hne:go'≠w.heap.size+1/\go'≠w.heap.size:=by have:=HS.out;omega
 replace q1:=Hid.mk q1
 replace q2:=Hid.mk q2
 replace q4:=Hid.mk q4
 replace hne:=Hid.mk hne
 clear q3 q5 hap S1 LA
 go_wp2_with (first
  | (guard_target =~ wpList _ _ _ (Oper.mk _ (Op.load 34 _) _ _ _ _::_) _ _;go_must (refine wpList_ld 34 _ rfl rfl _ _ rfl LB ?_);simp only[pts])
  | (guard_target =~ wpList _ _ _ (Oper.mk _ (Op.store 34 _ _) _ _ _ _::_) _ _;go_must (refine wpList_st 34 _ _ rfl rfl _ _ rfl rfl S2 ?_);simp only[pts]))
 refine bodyPost_ret (results_cell_row rfl _ _ w.heap.size 34 _ (0,0) _ rfl (setRow_heap _ _ _ _ _ _ K1'.out) Tryz.underlying34 rfl infoDM) rfl ⟨go',cap',rfl,⟨q1.out.same ((setRow_other _ _ _ _ hne.out.2).trans (set_oth (Ne.symm hne.out.1))),q2.out,?_⟩⟩
 have B5:=(H3.out.trans q4.out).setCell (p:=⟨w.heap.size+1,13,none⟩) (by show w.heap.size<=w.heap.size+1;omega) (.slice (some ⟨go',0,none⟩) zs.length cap')
 exact B5.trans ⟨rfl,rfl,rfl,by rw[size_setRow];exact Nat.le_refl _,fun k hk=>setRow_other _ _ _ _ (by omega)⟩
theorem sz_5:sz 5=1:=rfl
theorem sz_6:sz 6=2:=rfl
theorem sz_7:sz 7=4:=rfl
theorem refLies_any (s:Sp) (n:Int) (w:World) (hn:0<=n/\n<=9223372036854775807):Calls Tryz.prog 56 #[spV s,.int .i64 n] w fun r w'=>r = .returned (.bool (lieB s n))/\Below w.heap.size w w':=by
 suffices hh:Calls Tryz.prog 56 #[spV s,.int .i64 n] w fun r w'=>Ans r (lieB s n=true)/\Below w.heap.size w w' from hh.mono fun r w' h=>⟨h.1.same,h.2⟩
 by_cases h5:s.p=5
 ·have hb:Hid0 (lieB s n=true↔0<=s.o/\s.o<=n-1):=⟨by unfold lieB numB;rw[h5];simp only[sz_5];simp;exact decide_eq_true_iff⟩
  have d5:(s.p==5)=true:=by simp[h5]
  clear h5
  go_enter Tryz.func56,Tryz.ntmps56
  go_wp2_with fail
  all_goals
   go_ret
   refine⟨⟨_,rfl,?_⟩,bel1 _ _⟩
   rw[hb.out]
   simp_all
   try omega
 by_cases h6:s.p=6
 ·have hb:Hid0 (lieB s n=true↔0<=s.o/\s.o<=n-2):=⟨by unfold lieB numB;rw[h6];simp only[sz_6];simp;exact decide_eq_true_iff⟩
  have d5:(s.p==5)=false:=by simp[h5]
  have d6:(s.p==6)=true:=by simp[h6]
  clear h5 h6
  go_enter Tryz.func56,Tryz.ntmps56
  go_wp2_with fail
  all_goals
   go_ret
   refine⟨⟨_,rfl,?_⟩,bel1 _ _⟩
   rw[hb.out]
   simp_all
   try omega
 by_cases h7:s.p=7
 ·have hb:Hid0 (lieB s n=true↔0<=s.o/\s.o<=n-4):=⟨by unfold lieB numB;rw[h7];simp only[sz_7];simp;exact decide_eq_true_iff⟩
  have d5:(s.p==5)=false:=by simp[h5]
  have d6:(s.p==6)=false:=by simp[h6]
  have d7:(s.p==7)=true:=by simp[h7]
  clear h5 h6 h7
  go_enter Tryz.func56,Tryz.ntmps56
  go_wp2_with fail
  all_goals
   go_ret
   refine⟨⟨_,rfl,?_⟩,bel1 _ _⟩
   rw[hb.out]
   simp_all
   try omega
 have hb:Hid0 (¬ lieB s n=true):=⟨by unfold lieB numB;simp[h5,h6,h7]⟩
 have d5:(s.p==5)=false:=by simp[h5]
 have d6:(s.p==6)=false:=by simp[h6]
 have d7:(s.p==7)=false:=by simp[h7]
 clear h5 h6 h7
 go_enter Tryz.func56,Tryz.ntmps56
 go_wp2_with fail
 all_goals
  go_ret
  exact⟨Ans.no hb.out,bel1 _ _⟩
theorem refTells_any (s:Sp) (n:Int) (w:World) (hn:i64ok n):Calls Tryz.prog 58 #[spV s,.int .i64 n] w fun r w'=>r = .returned (.bool (telB s n))/\Below w.heap.size w w':=by
 have cM:=refMax_any s.p
 unfold telB
 unfold i64ok at hn
 by_cases h0:0<=n
 ·have hw:IntKind.u64.wrap n=n:=by rw[IntKind.wrap_u64];omega
  go_enter Tryz.func58,Tryz.ntmps58
  go_wp2_with (go_at_call 28;refine(cM _).mono ?_;rintro _ _ ⟨rfl,rfl⟩)
  go_ret
  exact⟨rb (by simp[h0]),bel1 _ _⟩
 ·have d0:decide (0<=n)=false:=by simp;omega
  go_enter Tryz.func58,Tryz.ntmps58
  go_wp2_with (go_at_call 28;refine(cM _).mono ?_;rintro _ _ ⟨rfl,rfl⟩)
  go_ret
  exact⟨rb (by simp;omega),bel1 _ _⟩
theorem dbb2 (w:World) (a b:Obj):Below w.heap.size w ((w.alloc a).alloc b):=(bel1 w a).trans ((bel1 (w.alloc a) b).mono (al_le _ _))
theorem refApart_any (s t:Sp) (w:World) (hs:0<=s.o/\s.o<=9223372036854775700) (ht:0<=t.o/\t.o<=9223372036854775700):Calls Tryz.prog 57 #[spV s,spV t] w fun r w'=>r = .returned (.bool (aptB s t))/\Below w.heap.size w w':=by
 have hz:=sz_b s.p
 have hy:=sz_b t.p
 have hw1:IntKind.i64.wrap (t.o+sz t.p)=t.o+sz t.p:=by rw[IntKind.wrap_i64];omega
 have hw2:IntKind.i64.wrap (s.o+sz s.p)=s.o+sz s.p:=by rw[IntKind.wrap_i64];omega
 suffices hh:Calls Tryz.prog 57 #[spV s,spV t] w fun r w'=>Ans r (aptB s t=true)/\Below w.heap.size w w' from hh.mono fun r w' h=>⟨h.1.same,h.2⟩
 have hb:Hid0 (aptB s t=true↔(s.o+sz s.p<=t.o\/t.o+sz t.p<=s.o)):=⟨by unfold aptB;rw[decide_eq_true_eq]⟩
 have cS:=refSize_any s.p
 have cT:=refSize_any t.p
 generalize sz s.p=a at *
 generalize sz t.p=b at *
 go_enter Tryz.func57,Tryz.ntmps57
 go_wp2_with (first|(go_at_call_of 55 (Value.int .i64 s.p);refine(cS _).mono ?_;rintro _ _ ⟨rfl,rfl⟩)|(go_at_call_of 55 (Value.int .i64 t.p);refine(cT _).mono ?_;rintro _ _ ⟨rfl,rfl⟩))
 all_goals
  go_ret
  refine⟨⟨_,rfl,?_⟩,dbb2 _ _ _⟩
  rw[hb.out]
  simp_all
  try omega
theorem clsB (wr:World):∃ p:World->Prop,p wr.drew/\(∀ W,p W->Below wr.heap.size wr W)/\Nonempty (CW p)/\(∀ (g o:Nat),g<wr.heap.size->∀ θ:CW p,θ.w.cell? ⟨g,o,none⟩=wr.cell? ⟨g,o,none⟩) /\
  (∀ (f:FuncId) (ag:Array Value) (v:Value),(∀ W,Below wr.heap.size wr W->Calls Tryz.prog f ag W fun e w'=>e = .returned v/\Below W.heap.size W w')->∀ W,p W->Calls Tryz.prog f ag W fun e w'=>e = .returned v/\p w') :=
 ⟨Below wr.heap.size wr,drw (Below.refl _ _),fun _ h=>h,⟨⟨_,Below.refl _ _⟩⟩,fun g o hg θ=>θ.h.cell (p:=⟨g,o,none⟩) hg,fun _ _ _ h=>callB (Nat.le_refl _) h⟩
theorem ent_lies:∀ ag w,(callFunc 56 ag).run Tryz.prog w = .ok (.enter 56 ag) w:=enters_of Tryz.func56 (by kernel_rfl) rfl
theorem ent_apart:∀ ag w,(callFunc 57 ag).run Tryz.prog w = .ok (.enter 57 ag) w:=enters_of Tryz.func57 (by kernel_rfl) rfl
theorem ent_tells:∀ ag w,(callFunc 58 ag).run Tryz.prog w = .ok (.enter 58 ag) w:=enters_of Tryz.func58 (by kernel_rfl) rfl
end Go.Proofs.YtbhmciieiilcfaaGreatDoor

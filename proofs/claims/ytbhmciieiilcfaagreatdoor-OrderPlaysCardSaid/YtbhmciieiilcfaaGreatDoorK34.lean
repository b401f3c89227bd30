import Derived.Test.YtbhmciieiilcfaaGreatDoorK31
namespace Go.Proofs.YtbhmciieiilcfaaGreatDoor
set_option maxRecDepth 1000000
set_option maxHeartbeats 16000000
open Go.ChangeShapes Go.WideShapes Go.ChangeAt Go.RowKit Go.Shelf Go.Maps
variable {f:Fm} {go i j k:Nat} {ks:List Nat} {l:List Tk} {s x:Sc} {t:Tk} {v:Value} {w w':World}
theorem ent_Step:∀ ag w,(callFunc 9 ag).run Tryz.prog w = .ok (.enter 9 ag) w:=enters_of Tryz.func9 (by kernel_rfl) rfl
theorem ent_dStep:∀ ag w,(callFunc 10 ag).run Tryz.prog w = .ok (.enter 10 ag) w:=enters_of Tryz.func10 (by kernel_rfl) rfl
theorem ent_lsame:∀ ag w,(callFunc 11 ag).run Tryz.prog w = .ok (.enter 11 ag) w:=enters_of Tryz.func11 (by kernel_rfl) rfl
structure PlC (f:Fm) (pp:Option Addr) (cp:Nat) (w:World) (A:Nat->Nat->Nat->World->Ms->Option (Nat×Ms)->Option (Nat×Obj)->Prop) (M:Nat->Nat->Nat->World->Cl->Ms->Option (Nat×Ms)->Option (Nat×Obj)->Prop) (C:Nat->Nat->Nat->Nat->World->Ms->Option (Nat×Obj)->Prop) (R1:Nat->Nat->World->Prop) (R2:Nat->Nat->World->Prop):Prop where
 new1:Calls Tryz.prog 4 #[fmV f pp cp] (w.alloc (fmO f pp cp)) fun e w'=>∃ go cap,e = .returned (.tuple #[dmV f pp cp (.slice (some ⟨go,0,none⟩) 1 cap) 0 0 0,.int .i64 0])/\R1 go cap w'
 ld1:∀ go cap X,R1 go cap X->FmC (X.alloc (dmO f pp cp (.slice (some ⟨go,0,none⟩) 1 cap) 0 0 0)) w.heap.size 0 f pp cp
 new2:∀ go cap X,R1 go cap X->Calls Tryz.prog 5 #[fmV f pp cp] (X.alloc (dmO f pp cp (.slice (some ⟨go,0,none⟩) 1 cap) 0 0 0)) fun e w'=>∃ a,e = .returned (.tuple #[.pointer (some ⟨a,0,none⟩),.int .i64 0])/\R2 a X.heap.size w'
 runs:∀ a b X,R2 a b X->Calls Tryz.prog 6 #[] X fun r w'=>r = .returned (.bool true)/\R2 a b w'
 beg:∀ a b X,R2 a b X->A a b X.heap.size (X.alloc zM) newZ none none
 bw:∀ {a b b2 X s n q},A a b b2 X s n q->Below w.heap.size w X
 bel:∀ {a b b2 X X' s n q},A a b b2 X s n q->Below X.heap.size X X'->A a b b2 X' s n q
 mark:∀ {a b b2 X s n} (o:Obj),A a b b2 X s n none->A a b b2 (X.alloc o) s n (some (X.heap.size,o))
 blk:∀ {a b b2 X s n e o},A a b b2 X s n (some (e,o))->X.heap[e]?=some o
 blkM:∀ {a b b2 X c s n e o},M a b b2 X c s n (some (e,o))->X.heap[e]?=some o
 loose:∀ {a b b2 X s n q},A a b b2 X s n q->A a b b2 X s n none
 same:∀ {a b b2 X s n q},A a b b2 X s n q->Calls Tryz.prog 11 #[.pointer (some ⟨a,0,none⟩),.pointer (some ⟨b,0,none⟩)] X fun r w'=>r = .returned (.bool true)/\A a b b2 w' s n q
 step1:∀ {a b b2 X s n q} (c:Cl),A a b b2 X s n q->i64ok c.cnt->c.nm.size<=maxLen->Calls Tryz.prog 9 #[.pointer (some ⟨a,0,none⟩),caV c] X fun r w'=>r = .returned (.int .i64 (stepZ f.toks s c.k c.cnt c.nm).1)/\M a b b2 w' c s n q
 step2:∀ {a b b2 X s n q} (c:Cl),M a b b2 X c s n q->i64ok c.cnt->Calls Tryz.prog 10 #[.pointer (some ⟨b,0,none⟩),caV c] X fun r w'=>r = .returned (.int .i64 (stepZ f.toks s c.k c.cnt c.nm).1)/\A a b b2 w' (stepZ f.toks s c.k c.cnt c.nm).2 n q
 swap:∀ {a b b2 X s a2 s2},A a b b2 X s (some (a2,s2)) none->A a2 b2 b X s2 (some (a,s)) none
 copy1:∀ {a b b2 X s q},A a b b2 X s none q->Calls Tryz.prog 7 #[.pointer (some ⟨a,0,none⟩)] X fun r w'=>∃ a2,r = .returned (.pointer (some ⟨a2,0,none⟩))/\C a b b2 a2 w' s q
 copy2:∀ {a b b2 a2 X s q},C a b b2 a2 X s q->Calls Tryz.prog 8 #[.pointer (some ⟨b,0,none⟩)] X fun r w'=>∃ (go cap nz:Nat) (g:Nat) (c al:Int),r = .returned (dmV f pp cp (.slice (some ⟨go,0,none⟩) nz cap) (g:Int) c al)/\Hid (w'.heap[b2]?=some zM/\A a b b2 (w'.setRow b2 (dmA f pp cp (.slice (some ⟨go,0,none⟩) nz cap) (g:Int) c al)) s (some (a2,s)) q)
theorem plays_walk {A:Nat->Nat->Nat->World->Ms->Option (Nat×Ms)->Option (Nat×Obj)->Prop} {M:Nat->Nat->Nat->World->Cl->Ms->Option (Nat×Ms)->Option (Nat×Obj)->Prop} {C:Nat->Nat->Nat->Nat->World->Ms->Option (Nat×Obj)->Prop} {R1:Nat->Nat->World->Prop} {R2:Nat->Nat->World->Prop} (f:Fm) (pp:Option Addr) (cp:Nat) (cs:List Cl) (pq:Option Addr) (cq:Nat) (at':Int) (os:List Cl) (po:Option Addr) (co:Nat) (w:World) (PC:PlC f pp cp w A M C R1 R2) (hq:CRow w pq w.heap.size cs) (hql:cs.length<=2000000000000) (ho:CRow w po w.heap.size os) (hol:os.length<=2000000000000) :
  Calls Tryz.prog 3 #[fmV f pp cp,.slice pq cs.length cq,.int .i64 at',.slice po os.length co] w fun r w'=>r = .returned (.bool true)/\Below w.heap.size w w':=by
 have FL:=(fm_new w f pp cp).load
 have N1:=PC.new1
 replace PC:=Hid.mk PC
 replace hq:=Hid.mk hq
 replace hql:=Hid.mk hql
 replace ho:=Hid.mk ho
 replace hol:=Hid.mk hol
 go_enter Tryz.func3,Tryz.ntmps3
 go_upto_region 3 with (first
  | (guard_target =~ wpList _ _ _ (Oper.mk _ (Op.load 30 _) _ _ _ _::_) _ _;go_must (refine wpList_ld 30 _ rfl rfl _ _ rfl FL ?_);simp only[pts])
  | (guard_target =~ wpList _ _ _ (Oper.mk _ (Op.store 34 _ _) _ _ _ _::_) _ _;go_must (refine wpList_st 34 _ _ rfl rfl _ _ rfl rfl (SM _ rfl) ?_);simp only[pts])
  | (go_at_call 4;refine N1.mono ?_;rintro _ w1 ⟨go,cap,rfl,r1⟩;clear FL;have FL:=(PC.out.ld1 go cap w1 r1).load;have SM:=fun z hz=>dm_new w1 z hz f pp cp (some ⟨go,0,none⟩) 1 cap 0 0 0;have N2:=PC.out.new2 go cap w1 r1;clear N1 r1)
  | (go_at_call 5;refine N2.mono ?_;rintro _ w2 ⟨a,rfl,r2⟩;replace r2:=Hid.mk r2))
 clear FL SM N2
 obtain⟨b,hb⟩:∃ b,b=w1.heap.size:=⟨_,rfl⟩
 rw[<- hb] at r2 ⊢
 clear hb
 go_upto_region 8 with (go_at_call 6;refine(PC.out.runs a b _ r2.out).mono ?_;rintro _ w3 ⟨rfl,r3⟩;replace r3:=Hid.mk r3)
 clear r2
 go_upto_region 10 with fail
 have hA:Hid (A a b w3.heap.size (w3.alloc zM) newZ none none):=⟨PC.out.beg a b w3 r3.out⟩
 obtain⟨b2,hb2⟩:∃ b2,b2=w3.heap.size:=⟨_,rfl⟩
 generalize w3.alloc zM=W4 at hA
 rw[<- hb2] at hA ⊢
 clear hb2 r3
 go_loopw [13,47] (fun q13 q wr=>∃ (j:Nat) (s:Ms) (n:Option (Nat×Ms)),j<=cs.length/\q = .int .i64 (j:Int)/\q13 = .pointer (n.map fun x=>⟨x.1,0,none⟩)/\Hid (A a b b2 wr s n none/\(n=none->(j:Int)<=at'\/at'<0)/\(n≠none->at'<j))) (fun _ q _=>cs.length-(RowKit.intOf q).toNat)
 case atStart=>exact⟨0,newZ,none,Nat.zero_le _,by go_num,rfl,⟨hA.out,fun _=>by omega,fun h=>absurd rfl h⟩⟩
 case round =>
  clear hA
  obtain⟨wo,rfl⟩:∃ wo,wo=wr:=⟨_,rfl⟩
  obtain⟨j,s,n,hj,rfl,rfl,hI⟩:=hrel
  have hA:Hid _:=⟨hI.out.1⟩
  have hn0:Hid _:=⟨hI.out.2.1⟩
  have hn1:Hid _:=⟨hI.out.2.2⟩
  clear hI
  by_cases hx:j<cs.length/\¬ 300<=j
  ·obtain⟨hlt,h300⟩:=hx
   obtain⟨c,hc⟩:∃ c,cs[j]?=some c:=⟨cs[j],List.getElem?_eq_getElem hlt⟩
   obtain⟨gq,oq,rfl,hgq,c0,c1,c2,c3,c4⟩:=(hq.out.below (PC.out.bw hA.out)).c j c hc
   obtain⟨hco,hnm,pw,nw,mw,hws⟩:=hq.out.ok c (List.mem_of_getElem? hc)
   obtain⟨ck,nm,ws,cnt,tx⟩:=c
   simp only at c0 c1 c2 c3 c4 hco hnm hws
   subst hws
   have hji:(j:Int)<cs.length:=by omega
   have hjb:(j:Int)<2000000000000:=by have:=hql.out;omega
   replace hco:=Hid.mk hco
   replace hnm:=Hid.mk hnm
   clear hc hgq
   have d3:decide ((300:Int)<=(j:Int))=false:=by simp;omega
   obtain⟨e,he⟩:∃ e,e=wo.heap.size:=⟨_,rfl⟩
   replace hA:Hid (A a b b2 (wo.alloc (caO ⟨ck,nm,.slice pw nw mw,cnt,tx⟩)) s n (some (wo.heap.size,caO ⟨ck,nm,.slice pw nw mw,cnt,tx⟩))):=⟨PC.out.mark (caO ⟨ck,nm,.slice pw nw mw,cnt,tx⟩) hA.out⟩
   generalize hX:wo.alloc (caO ⟨ck,nm,.slice pw nw mw,cnt,tx⟩)=X at hA
   dsimp only [caO] at hX
   cases n with
   | none =>
    simp only[Option.map]
    by_cases hja:(j:Int)=at'
    focus
     have g1:((j:Int)==at')=true:=by simp[hja]
     replace hja:=Hid.mk hja
     go_upto_region 14 with fail
     rw[<- he] at hA ⊢
     replace he:=Hid.mk he
     clear hX
     go_upto_region 18 with (first
      | (go_at_call 7;refine(PC.out.copy1 hA.out).mono ?_;rintro _ w5 ⟨a2,rfl,hC⟩;have C2:=PC.out.copy2 hC;clear hC hA)
      | (go_at_call 8;refine C2.mono ?_;rintro _ w6 ⟨go,cap,nz,g,c,al,rfl,hC⟩;have SM:=dm_st (old:=zMa) hC.out.1 rfl f pp cp (some ⟨go,0,none⟩) nz cap (g:Int) c al;have hA:Hid _:=⟨hC.out.2⟩;clear hC C2)
      | (guard_target =~ wpList _ _ _ (Oper.mk _ (Op.store 34 _ _) _ _ _ _::_) _ _;go_must (refine wpList_st 34 _ _ rfl rfl _ _ rfl rfl SM ?_);simp only[pts]))
     clear SM g1
     obtain⟨N,hN⟩:∃ N,N=some (a2,s):=⟨_,rfl⟩
     rw[<- hN] at hA
     have hfin:Hid ((N=none->((j+1:Nat):Int)<=at'\/at'<0)/\(N≠none->at'<((j+1:Nat):Int))):=⟨(fun h=>by rw[hN] at h;cases h),fun _=>by have:=hja.out;omega⟩
     replace hN:=Hid.mk hN
     generalize w6.setRow b2 (dmA f pp cp (.slice (some ⟨go,0,none⟩) nz cap) (g:Int) c al)=Y at hA
    rotate_left
    focus
     have g1:((j:Int)==at')=false:=by simp[hja]
     obtain⟨N,hN⟩:∃ N:Option (Nat×Ms),N=none:=⟨_,rfl⟩
     have hfin:Hid ((N=none->((j+1:Nat):Int)<=at'\/at'<0)/\(N≠none->at'<((j+1:Nat):Int))):=⟨fun _=>by have:=hn0.out rfl;omega,fun h=>absurd hN h⟩
     clear hja
     go_upto_region 18 with fail
     rw[<- he] at hA ⊢
     rw[<- hN] at hA
     replace hN:=Hid.mk hN
     clear hX g1
    all_goals
     clear c0 c1 c2 c3 c4 d3 he
     obtain⟨R,hR⟩:∃ R,stepZ f.toks s ck cnt nm=R:=⟨_,rfl⟩
     have K1:Hid (∀ X,A a b b2 X s N (some (e,caO ⟨ck,nm,.slice pw nw mw,cnt,tx⟩))->Calls Tryz.prog 9 #[.pointer (some ⟨a,0,none⟩),caV (⟨ck,nm,.slice pw nw mw,cnt,tx⟩:Cl)] X fun r w'=>∃ v,r = .returned v/\(v = .int .i64 R.1/\M a b b2 w' (⟨ck,nm,.slice pw nw mw,cnt,tx⟩:Cl) s N (some (e,caO ⟨ck,nm,.slice pw nw mw,cnt,tx⟩)))):=⟨fun X h=>(PC.out.step1 (⟨ck,nm,.slice pw nw mw,cnt,tx⟩:Cl) h hco.out hnm.out).mono fun r w' hP=>⟨_,hP.1,by rw[<- hR],hP.2⟩⟩
     have K2:Hid (∀ X,M a b b2 X (⟨ck,nm,.slice pw nw mw,cnt,tx⟩:Cl) s N (some (e,caO ⟨ck,nm,.slice pw nw mw,cnt,tx⟩))->Calls Tryz.prog 10 #[.pointer (some ⟨b,0,none⟩),caV (⟨ck,nm,.slice pw nw mw,cnt,tx⟩:Cl)] X fun r w'=>∃ v,r = .returned v/\(v = .int .i64 R.1/\A a b b2 w' R.2 N (some (e,caO ⟨ck,nm,.slice pw nw mw,cnt,tx⟩)))):=⟨fun X h=>(PC.out.step2 (⟨ck,nm,.slice pw nw mw,cnt,tx⟩:Cl) h hco.out).mono fun r w' hP=>⟨_,hP.1,by rw[<- hR],by rw[<- hR];exact hP.2⟩⟩
     have K3:Hid (∀ X,A a b b2 X R.2 N (some (e,caO ⟨ck,nm,.slice pw nw mw,cnt,tx⟩))->Calls Tryz.prog 11 #[.pointer (some ⟨a,0,none⟩),.pointer (some ⟨b,0,none⟩)] X fun r w'=>∃ v,r = .returned v/\(v = .bool true/\A a b b2 w' R.2 N (some (e,caO ⟨ck,nm,.slice pw nw mw,cnt,tx⟩)))):=⟨fun X h=>(PC.out.same h).mono fun r w' hP=>⟨_,hP.1,rfl,hP.2⟩⟩
     clear hR
     obtain⟨E,s'⟩:=R
     simp only at K1 K2 K3
     have hEE:(E != E)=false:=by simp
     have HAd:=PC.out.bel hA.out (Below.refl _ _).drew
     obtain⟨p,pI,pO,pN⟩:∃ p:World->Prop,(∀ V,V.heap[e]?=some (caO ⟨ck,nm,.slice pw nw mw,cnt,tx⟩)->p V)/\(∀ V,p V->V.heap[e]?=some (caO ⟨ck,nm,.slice pw nw mw,cnt,tx⟩))/\Nonempty (CW p):=⟨fun V=>V.heap[e]?=some (caO ⟨ck,nm,.slice pw nw mw,cnt,tx⟩),fun _ h=>h,fun _ h=>h,⟨⟨_,PC.out.blk hA.out⟩⟩⟩
     have LF:∀ V,(∃ θ:CW p,V=θ.w)->(Instr.loadAt 45 (.pointer (some ⟨e,0,none⟩))).run Tryz.prog V = .ok (caV (⟨ck,nm,.slice pw nw mw,cnt,tx⟩:Cl)) V:=fun V h=>by obtain⟨θ,rfl⟩:=h;exact ca_ld (pO _ θ.h)
     clear hA
     refine wp_region_lz (fun V=>∃ θ:CW p,V=θ.w) [0,1,3,2,4,5,6,7,8,9,10] (by kernel_rfl) (by kernel_rfl) (fun _ _ d _ _ h=>by cases d<;>exact h) ⟨⟨_,pI _ (PC.out.blk HAd)⟩,rfl⟩ ?_
     repeat (first|(refine ly_ld LF rfl (by rfl) ?_;simp only[pts])|(refine ly_one rfl ?_;(first|go_big_quiet_skip|(go_big_quiet_want;go_big_quiet_op;go_big_quiet_on));refine wpQuiet_nil ?_))
     refine ly_call2 ent_Step (K1.out _ HAd) rfl rfl (by rfl) (fun v w1 hP=>?_)
     obtain⟨rfl,hM1⟩:=hP
     refine⟨_,fun _ h=>h,⟨⟨_,pI _ (PC.out.blkM hM1)⟩,rfl⟩,?_⟩
     simp only[pts]
     refine ly_call2 ent_dStep (K2.out _ hM1) rfl rfl (by rfl) (fun v w2 hP=>?_)
     obtain⟨rfl,hA2⟩:=hP
     refine⟨_,fun _ h=>h,⟨⟨_,pI _ (PC.out.blk hA2)⟩,rfl⟩,?_⟩
     simp only[pts]
     repeat (first|(refine ly_ld LF rfl (by rfl) ?_;simp only[pts])|(refine ly_one rfl ?_;(first|go_big_quiet_skip|(go_big_quiet_want;go_big_quiet_op;go_big_quiet_on));refine wpQuiet_nil ?_))
     refine ly_call2 ent_lsame (K3.out _ hA2) rfl rfl (by rfl) (fun v w3 hP=>?_)
     obtain⟨rfl,hA3⟩:=hP
     refine⟨_,fun _ h=>h,⟨⟨_,pI _ (PC.out.blk hA3)⟩,rfl⟩,?_⟩
     simp only[pts]
     repeat (first|(refine ly_ld LF rfl (by rfl) ?_;simp only[pts])|(refine ly_one rfl ?_;(first|go_big_quiet_skip|(go_big_quiet_want;go_big_quiet_op;go_big_quiet_on));refine wpQuiet_nil ?_))
     refine ly_done ?_
     replace hA3:=Hid.mk hA3
     clear K1 K2 K3 hEE LF hM1 hA2 HAd
     go_wp2_with fail
     go_roundw
     case rel=>exact⟨j+1,s',N,by omega,by go_num,by rw[hN.out],⟨PC.out.loose hA3.out,hfin.out⟩⟩
     case measure=>simp[RowKit.intOf];omega
   | some y =>
    obtain⟨a2,s2⟩:=y
    simp only[Option.map]
    have g1:((j:Int)==at')=false:=by have:=hn1.out (by simp);simp;omega
    have hn2:Hid (at'<((j+1:Nat):Int)):=⟨by have:=hn1.out (by simp);omega⟩
    go_upto_region 18 with fail
    rw[<- he] at hA ⊢
    clear hX c0 c1 c2 c3 c4 d3 he
    obtain⟨R,hR⟩:∃ R,stepZ f.toks s ck cnt nm=R:=⟨_,rfl⟩
    have K1:Hid (∀ X,A a b b2 X s (some (a2,s2)) (some (e,caO ⟨ck,nm,.slice pw nw mw,cnt,tx⟩))->Calls Tryz.prog 9 #[.pointer (some ⟨a,0,none⟩),caV (⟨ck,nm,.slice pw nw mw,cnt,tx⟩:Cl)] X fun r w'=>∃ v,r = .returned v/\(v = .int .i64 R.1/\M a b b2 w' (⟨ck,nm,.slice pw nw mw,cnt,tx⟩:Cl) s (some (a2,s2)) (some (e,caO ⟨ck,nm,.slice pw nw mw,cnt,tx⟩)))):=⟨fun X h=>(PC.out.step1 (⟨ck,nm,.slice pw nw mw,cnt,tx⟩:Cl) h hco.out hnm.out).mono fun r w' hP=>⟨_,hP.1,by rw[<- hR],hP.2⟩⟩
    have K2:Hid (∀ X,M a b b2 X (⟨ck,nm,.slice pw nw mw,cnt,tx⟩:Cl) s (some (a2,s2)) (some (e,caO ⟨ck,nm,.slice pw nw mw,cnt,tx⟩))->Calls Tryz.prog 10 #[.pointer (some ⟨b,0,none⟩),caV (⟨ck,nm,.slice pw nw mw,cnt,tx⟩:Cl)] X fun r w'=>∃ v,r = .returned v/\(v = .int .i64 R.1/\A a b b2 w' R.2 (some (a2,s2)) (some (e,caO ⟨ck,nm,.slice pw nw mw,cnt,tx⟩)))):=⟨fun X h=>(PC.out.step2 (⟨ck,nm,.slice pw nw mw,cnt,tx⟩:Cl) h hco.out).mono fun r w' hP=>⟨_,hP.1,by rw[<- hR],by rw[<- hR];exact hP.2⟩⟩
    have K3:Hid (∀ X,A a b b2 X R.2 (some (a2,s2)) (some (e,caO ⟨ck,nm,.slice pw nw mw,cnt,tx⟩))->Calls Tryz.prog 11 #[.pointer (some ⟨a,0,none⟩),.pointer (some ⟨b,0,none⟩)] X fun r w'=>∃ v,r = .returned v/\(v = .bool true/\A a b b2 w' R.2 (some (a2,s2)) (some (e,caO ⟨ck,nm,.slice pw nw mw,cnt,tx⟩)))):=⟨fun X h=>(PC.out.same h).mono fun r w' hP=>⟨_,hP.1,rfl,hP.2⟩⟩
    clear hR
    obtain⟨E,s'⟩:=R
    simp only at K1 K2 K3
    have hEE:(E != E)=false:=by simp
    have HAd:=PC.out.bel hA.out (Below.refl _ _).drew
    obtain⟨p,pI,pO,pN⟩:∃ p:World->Prop,(∀ V,V.heap[e]?=some (caO ⟨ck,nm,.slice pw nw mw,cnt,tx⟩)->p V)/\(∀ V,p V->V.heap[e]?=some (caO ⟨ck,nm,.slice pw nw mw,cnt,tx⟩))/\Nonempty (CW p):=⟨fun V=>V.heap[e]?=some (caO ⟨ck,nm,.slice pw nw mw,cnt,tx⟩),fun _ h=>h,fun _ h=>h,⟨⟨_,PC.out.blk hA.out⟩⟩⟩
    have LF:∀ V,(∃ θ:CW p,V=θ.w)->(Instr.loadAt 45 (.pointer (some ⟨e,0,none⟩))).run Tryz.prog V = .ok (caV (⟨ck,nm,.slice pw nw mw,cnt,tx⟩:Cl)) V:=fun V h=>by obtain⟨θ,rfl⟩:=h;exact ca_ld (pO _ θ.h)
    clear hA
    refine wp_region_lz (fun V=>∃ θ:CW p,V=θ.w) [0,1,3,2,4,5,6,7,8,9,10] (by kernel_rfl) (by kernel_rfl) (fun _ _ d _ _ h=>by cases d<;>exact h) ⟨⟨_,pI _ (PC.out.blk HAd)⟩,rfl⟩ ?_
    repeat (first|(refine ly_ld LF rfl (by rfl) ?_;simp only[pts])|(refine ly_one rfl ?_;(first|go_big_quiet_skip|(go_big_quiet_want;go_big_quiet_op;go_big_quiet_on));refine wpQuiet_nil ?_))
    refine ly_call2 ent_Step (K1.out _ HAd) rfl rfl (by rfl) (fun v w1 hP=>?_)
    obtain⟨rfl,hM1⟩:=hP
    refine⟨_,fun _ h=>h,⟨⟨_,pI _ (PC.out.blkM hM1)⟩,rfl⟩,?_⟩
    simp only[pts]
    refine ly_call2 ent_dStep (K2.out _ hM1) rfl rfl (by rfl) (fun v w2 hP=>?_)
    obtain⟨rfl,hA2⟩:=hP
    refine⟨_,fun _ h=>h,⟨⟨_,pI _ (PC.out.blk hA2)⟩,rfl⟩,?_⟩
    simp only[pts]
    repeat (first|(refine ly_ld LF rfl (by rfl) ?_;simp only[pts])|(refine ly_one rfl ?_;(first|go_big_quiet_skip|(go_big_quiet_want;go_big_quiet_op;go_big_quiet_on));refine wpQuiet_nil ?_))
    refine ly_call2 ent_lsame (K3.out _ hA2) rfl rfl (by rfl) (fun v w3 hP=>?_)
    obtain⟨rfl,hA3⟩:=hP
    refine⟨_,fun _ h=>h,⟨⟨_,pI _ (PC.out.blk hA3)⟩,rfl⟩,?_⟩
    simp only[pts]
    repeat (first|(refine ly_ld LF rfl (by rfl) ?_;simp only[pts])|(refine ly_one rfl ?_;(first|go_big_quiet_skip|(go_big_quiet_want;go_big_quiet_op;go_big_quiet_on));refine wpQuiet_nil ?_))
    refine ly_done ?_
    replace hA3:=Hid.mk hA3
    clear K1 K2 K3 hEE LF hM1 hA2 HAd
    go_wp2_with fail
    go_roundw
    case rel=>exact⟨j+1,s',some (a2,s2),by omega,by go_num,rfl,⟨PC.out.loose hA3.out,(fun h=>by cases h),fun _=>hn2.out⟩⟩
    case measure=>simp[RowKit.intOf];omega
  ·cases n with
   | none =>
    simp only[Option.map]
    by_cases hlt:j<cs.length
    focus
     obtain⟨c,hc⟩:∃ c,cs[j]?=some c:=⟨cs[j],List.getElem?_eq_getElem hlt⟩
     obtain⟨gq,oq,rfl,hgq,c0,c1,c2,c3,c4⟩:=(hq.out.below (PC.out.bw hA.out)).c j c hc
     obtain⟨hco,hnm,pw,nw,mw,hws⟩:=hq.out.ok c (List.mem_of_getElem? hc)
     obtain⟨ck,nm,ws,cnt,tx⟩:=c
     simp only at c0 c1 c2 c3 c4 hco hnm hws
     subst hws
     have hji:(j:Int)<cs.length:=by omega
     have hjb:(j:Int)<2000000000000:=by have:=hql.out;omega
     replace hco:=Hid.mk hco
     replace hnm:=Hid.mk hnm
     clear hc hgq
     have d3:decide ((300:Int)<=(j:Int))=true:=by simp;omega
     have hA':Hid _:=⟨PC.out.bel hA.out (bel1 _ (caO ⟨ck,nm,.slice pw nw mw,cnt,tx⟩))⟩
     go_upto_region 21 with fail
     replace hA:=hA'
     clear c0 c1 c2 c3 c4 d3 hji hA'
    rotate_left
    focus
     obtain rfl:j=cs.length:=by omega
     have d3:decide ((cs.length:Int)<cs.length)=false:=by simp
     go_upto_region 21 with fail
     clear d3
    all_goals
     go_wp2_with (go_at_call 11;refine(PC.out.same hA.out).mono ?_;rintro _ wz ⟨rfl,hz9⟩;replace hz9:=Hid.mk hz9)
     go_ret
     exact⟨rfl,PC.out.bw hz9.out⟩
   | some y =>
    obtain⟨a2,s2⟩:=y
    simp only[Option.map]
    by_cases hlt:j<cs.length
    focus
     obtain⟨c,hc⟩:∃ c,cs[j]?=some c:=⟨cs[j],List.getElem?_eq_getElem hlt⟩
     obtain⟨gq,oq,rfl,hgq,c0,c1,c2,c3,c4⟩:=(hq.out.below (PC.out.bw hA.out)).c j c hc
     obtain⟨hco,hnm,pw,nw,mw,hws⟩:=hq.out.ok c (List.mem_of_getElem? hc)
     obtain⟨ck,nm,ws,cnt,tx⟩:=c
     simp only at c0 c1 c2 c3 c4 hco hnm hws
     subst hws
     have hji:(j:Int)<cs.length:=by omega
     have hjb:(j:Int)<2000000000000:=by have:=hql.out;omega
     replace hco:=Hid.mk hco
     replace hnm:=Hid.mk hnm
     clear hc hgq
     have d3:decide ((300:Int)<=(j:Int))=true:=by simp;omega
     have hA':Hid _:=⟨PC.out.bel hA.out (bel1 _ (caO ⟨ck,nm,.slice pw nw mw,cnt,tx⟩))⟩
     go_upto_region 21 with fail
     replace hA:=hA'
     clear c0 c1 c2 c3 c4 d3 hji hA' hj hjb hco hnm
    rotate_left
    focus
     obtain rfl:j=cs.length:=by omega
     have d3:decide ((cs.length:Int)<cs.length)=false:=by simp
     go_upto_region 21 with fail
     clear d3
    all_goals
     clear hlt hn0 hn1 hx
     replace hA:Hid _:=⟨PC.out.swap hA.out⟩
     obtain⟨s1,hs1⟩:∃ s1,s1=s:=⟨_,rfl⟩
     rw[<- hs1] at hA
     clear hs1
     go_upto_region 24 with fail
     go_loopw [80] (fun q wr=>∃ (i:Nat) (s:Ms),i<=os.length/\q = .int .i64 (i:Int)/\Hid (A a2 b2 b wr s (some (a,s1)) none)) (fun q _=>os.length-(RowKit.intOf q).toNat)
     case atStart=>exact⟨0,_,Nat.zero_le _,by go_num,⟨hA.out⟩⟩
     case round =>
      clear hA
      obtain⟨wo2,rfl⟩:∃ wo2,wo2=wr:=⟨_,rfl⟩
      obtain⟨i,s,hi,rfl,hA⟩:=hrel
      by_cases hlt:i<os.length
      ·obtain⟨c,hc⟩:∃ c,os[i]?=some c:=⟨os[i],List.getElem?_eq_getElem hlt⟩
       obtain⟨gq,oq,rfl,hgq,c0,c1,c2,c3,c4⟩:=(ho.out.below (PC.out.bw hA.out)).c i c hc
       obtain⟨hco,hnm,pw,nw,mw,hws⟩:=ho.out.ok c (List.mem_of_getElem? hc)
       obtain⟨ck,nm,ws,cnt,tx⟩:=c
       simp only at c0 c1 c2 c3 c4 hco hnm hws
       subst hws
       have hji:(i:Int)<os.length:=by omega
       have hjb:(i:Int)<2000000000000:=by have:=hol.out;omega
       replace hco:=Hid.mk hco
       replace hnm:=Hid.mk hnm
       clear hc hgq
       by_cases h300:300<=i
       ·have d3:decide ((300:Int)<=(i:Int))=true:=by simp;omega
        go_upto_region 30 with fail
        replace hA:Hid _:=⟨PC.out.bel hA.out (bel1 _ (caO ⟨ck,nm,.slice pw nw mw,cnt,tx⟩))⟩
        generalize wo2.alloc (caO ⟨ck,nm,.slice pw nw mw,cnt,tx⟩)=X at hA
        clear c0 c1 c2 c3 c4 d3 hji
        replace hA:Hid _:=⟨PC.out.swap hA.out⟩
        go_wp2_with (go_at_call 11;refine(PC.out.same hA.out).mono ?_;rintro _ wz ⟨rfl,hz9⟩;replace hz9:=Hid.mk hz9)
        go_ret
        exact⟨rfl,PC.out.bw hz9.out⟩
       ·have d3:decide ((300:Int)<=(i:Int))=false:=by simp;omega
        go_upto_region 27 with fail
        obtain⟨e2,he2⟩:∃ e2,e2=wo2.heap.size:=⟨_,rfl⟩
        replace hA:Hid (A a2 b2 b (wo2.alloc (caO ⟨ck,nm,.slice pw nw mw,cnt,tx⟩)) s (some (a,s1)) (some (wo2.heap.size,caO ⟨ck,nm,.slice pw nw mw,cnt,tx⟩))):=⟨PC.out.mark (caO ⟨ck,nm,.slice pw nw mw,cnt,tx⟩) hA.out⟩
        generalize wo2.alloc (caO ⟨ck,nm,.slice pw nw mw,cnt,tx⟩)=X at hA
        rw[<- he2] at hA ⊢
        clear c0 c1 c2 c3 c4 d3 he2
        obtain⟨R,hR⟩:∃ R,stepZ f.toks s ck cnt nm=R:=⟨_,rfl⟩
        have K1:Hid (∀ X,A a2 b2 b X s (some (a,s1)) (some (e2,caO ⟨ck,nm,.slice pw nw mw,cnt,tx⟩))->Calls Tryz.prog 9 #[.pointer (some ⟨a2,0,none⟩),caV (⟨ck,nm,.slice pw nw mw,cnt,tx⟩:Cl)] X fun r w'=>∃ v,r = .returned v/\(v = .int .i64 R.1/\M a2 b2 b w' (⟨ck,nm,.slice pw nw mw,cnt,tx⟩:Cl) s (some (a,s1)) (some (e2,caO ⟨ck,nm,.slice pw nw mw,cnt,tx⟩)))):=⟨fun X h=>(PC.out.step1 (⟨ck,nm,.slice pw nw mw,cnt,tx⟩:Cl) h hco.out hnm.out).mono fun r w' hP=>⟨_,hP.1,by rw[<- hR],hP.2⟩⟩
        have K2:Hid (∀ X,M a2 b2 b X (⟨ck,nm,.slice pw nw mw,cnt,tx⟩:Cl) s (some (a,s1)) (some (e2,caO ⟨ck,nm,.slice pw nw mw,cnt,tx⟩))->Calls Tryz.prog 10 #[.pointer (some ⟨b2,0,none⟩),caV (⟨ck,nm,.slice pw nw mw,cnt,tx⟩:Cl)] X fun r w'=>∃ v,r = .returned v/\(v = .int .i64 R.1/\A a2 b2 b w' R.2 (some (a,s1)) (some (e2,caO ⟨ck,nm,.slice pw nw mw,cnt,tx⟩)))):=⟨fun X h=>(PC.out.step2 (⟨ck,nm,.slice pw nw mw,cnt,tx⟩:Cl) h hco.out).mono fun r w' hP=>⟨_,hP.1,by rw[<- hR],by rw[<- hR];exact hP.2⟩⟩
        have K3:Hid (∀ X,A a2 b2 b X R.2 (some (a,s1)) (some (e2,caO ⟨ck,nm,.slice pw nw mw,cnt,tx⟩))->Calls Tryz.prog 11 #[.pointer (some ⟨a2,0,none⟩),.pointer (some ⟨b2,0,none⟩)] X fun r w'=>∃ v,r = .returned v/\(v = .bool true/\A a2 b2 b w' R.2 (some (a,s1)) (some (e2,caO ⟨ck,nm,.slice pw nw mw,cnt,tx⟩)))):=⟨fun X h=>(PC.out.same h).mono fun r w' hP=>⟨_,hP.1,rfl,hP.2⟩⟩
        clear hR
        obtain⟨E,s'⟩:=R
        simp only at K1 K2 K3
        have hEE:(E != E)=false:=by simp
        have HAd:=PC.out.bel hA.out (Below.refl _ _).drew
        obtain⟨p,pI,pO,pN⟩:∃ p:World->Prop,(∀ V,V.heap[e2]?=some (caO ⟨ck,nm,.slice pw nw mw,cnt,tx⟩)->p V)/\(∀ V,p V->V.heap[e2]?=some (caO ⟨ck,nm,.slice pw nw mw,cnt,tx⟩))/\Nonempty (CW p):=⟨fun V=>V.heap[e2]?=some (caO ⟨ck,nm,.slice pw nw mw,cnt,tx⟩),fun _ h=>h,fun _ h=>h,⟨⟨_,PC.out.blk hA.out⟩⟩⟩
        have LF:∀ V,(∃ θ:CW p,V=θ.w)->(Instr.loadAt 45 (.pointer (some ⟨e2,0,none⟩))).run Tryz.prog V = .ok (caV (⟨ck,nm,.slice pw nw mw,cnt,tx⟩:Cl)) V:=fun V h=>by obtain⟨θ,rfl⟩:=h;exact ca_ld (pO _ θ.h)
        clear hA
        refine wp_region_lz (fun V=>∃ θ:CW p,V=θ.w) [0,1,3,2,4,5,6,7,8,9,10] (by kernel_rfl) (by kernel_rfl) (fun _ _ d _ _ h=>by cases d<;>exact h) ⟨⟨_,pI _ (PC.out.blk HAd)⟩,rfl⟩ ?_
        repeat (first|(refine ly_ld LF rfl (by rfl) ?_;simp only[pts])|(refine ly_one rfl ?_;(first|go_big_quiet_skip|(go_big_quiet_want;go_big_quiet_op;go_big_quiet_on));refine wpQuiet_nil ?_))
        refine ly_call2 ent_Step (K1.out _ HAd) rfl rfl (by rfl) (fun v w1 hP=>?_)
        obtain⟨rfl,hM1⟩:=hP
        refine⟨_,fun _ h=>h,⟨⟨_,pI _ (PC.out.blkM hM1)⟩,rfl⟩,?_⟩
        simp only[pts]
        refine ly_call2 ent_dStep (K2.out _ hM1) rfl rfl (by rfl) (fun v w2 hP=>?_)
        obtain⟨rfl,hA2⟩:=hP
        refine⟨_,fun _ h=>h,⟨⟨_,pI _ (PC.out.blk hA2)⟩,rfl⟩,?_⟩
        simp only[pts]
        repeat (first|(refine ly_ld LF rfl (by rfl) ?_;simp only[pts])|(refine ly_one rfl ?_;(first|go_big_quiet_skip|(go_big_quiet_want;go_big_quiet_op;go_big_quiet_on));refine wpQuiet_nil ?_))
        refine ly_call2 ent_lsame (K3.out _ hA2) rfl rfl (by rfl) (fun v w3 hP=>?_)
        obtain⟨rfl,hA3⟩:=hP
        refine⟨_,fun _ h=>h,⟨⟨_,pI _ (PC.out.blk hA3)⟩,rfl⟩,?_⟩
        simp only[pts]
        repeat (first|(refine ly_ld LF rfl (by rfl) ?_;simp only[pts])|(refine ly_one rfl ?_;(first|go_big_quiet_skip|(go_big_quiet_want;go_big_quiet_op;go_big_quiet_on));refine wpQuiet_nil ?_))
        refine ly_done ?_
        replace hA3:=Hid.mk hA3
        clear K1 K2 K3 hEE LF hM1 hA2 HAd
        have hjb2:=hjb
        go_wp2_with fail
        go_roundw
        case rel=>exact⟨i+1,s',by omega,by go_num,⟨PC.out.loose hA3.out⟩⟩
        case measure=>simp[RowKit.intOf];omega
      ·obtain rfl:i=os.length:=by omega
       have d3:decide ((os.length:Int)<os.length)=false:=by simp
       clear hi hlt
       go_upto_region 30 with fail
       clear d3
       replace hA:Hid _:=⟨PC.out.swap hA.out⟩
       go_wp2_with (go_at_call 11;refine(PC.out.same hA.out).mono ?_;rintro _ wz ⟨rfl,hz9⟩;replace hz9:=Hid.mk hz9)
       go_ret
       exact⟨rfl,PC.out.bw hz9.out⟩
def stgO (l:List Tk) (s:Sc):Int:=if s.tk.op=0\/s.tk.op=4 then (if lastOp l s=4 then 1 else if lastOp l s=6 then 2 else 0) else if s.tk.op=10\/s.tk.op=12 then (if s.kids.length=0 then 0 else 1) else (s.kids.length:Int)
def mayD (xo stage op:Int):Bool :=
 if xo=0\/xo=4 then decide ((op=2/\stage=0)\/(op=4/\stage<=1)\/op=6)
 else if xo=2 then decide (stage=0)&&tyO op
 else if xo=8 then tyO op
 else if xo=10\/xo=12 then decide ((stage=0/\op=14)\/(0<stage/\op=15))
 else false
theorem last_par (h:ScOk l i s) (ho:s.tk.op=0\/s.tk.op=4):lastOp l s=0\/lastOp l s=2\/lastOp l s=4\/lastOp l s=6:=by
 unfold lastOp
 cases hk:s.kids.getLast? with
 | none=>exact .inl rfl
 | some k =>
  obtain⟨t,ht,hp⟩:=h.par ho k (List.mem_of_getLast? hk)
  dsimp only
  rw[ht]
  unfold ptO at hp
  have:=decT hp
  show t.op=0\/t.op=2\/t.op=4\/t.op=6
  omega
theorem may_doc {op:Int} (h:ScOk l i s) (he:edO op=false):mayD s.tk.op (stgO l s) op=mayB l s op:=by
 have hne:¬ op=s.tk.op+1:=fun e=>by rw[e,edO_succ h.beg] at he;cases he
 have hb:=h.beg
 unfold bgO at hb
 have hb:=decT hb
 rw[Bool.eq_iff_iff]
 unfold mayD mayB stgO
 by_cases h0:s.tk.op=0\/s.tk.op=4
 ·rw[if_pos h0,if_pos h0,if_pos h0]
  have hl:=last_par h h0
  unfold ptO
  simp only[decide_eq_true_eq,Bool.or_eq_true,Bool.and_eq_true]
  rcases hl with e|e|e|e<;>rw[e]<;>simp<;>omega
 rw[if_neg h0,if_neg h0,if_neg h0]
 by_cases h10:s.tk.op=10\/s.tk.op=12
 ·have n2:¬ s.tk.op=2:=by omega
  have n8:¬ s.tk.op=8:=by omega
  rw[if_neg n2,if_neg n2,if_neg n8,if_pos h10,if_pos h10,if_pos h10]
  by_cases hk:s.kids.length=0
  ·simp[hk]
  ·simp[hk,hne]
 rw[if_neg h10,if_neg h10,if_neg h10]
 by_cases h2:s.tk.op=2
 ·rw[if_pos h2,if_pos h2]
  simp only[decide_eq_true_eq,Bool.or_eq_true,Bool.and_eq_true]
  constructor
  ·rintro⟨h5,h6⟩;exact .inl ⟨by omega,h6⟩
  ·rintro(⟨h5,h6⟩|⟨_,h6⟩)
   ·exact⟨by omega,h6⟩
   ·exact absurd h6 hne
 rw[if_neg h2,if_neg h2]
 by_cases h8:s.tk.op=8
 ·rw[if_pos h8,if_pos h8]
  simp only[decide_eq_true_eq,Bool.or_eq_true]
  exact⟨.inl,fun e=>e.elim id (fun e=>absurd e hne)⟩
 ·rw[if_neg h8,if_neg h8]
  simp[hne]
structure Od where
 at_:Nat
 stg:Int
 en:Int
 snc:Int
 row:Int
def odOf (l:List Tk) (s:Sc):Od:=⟨s.at_,stgO l s,s.e0,s.fld,s.row⟩
def odC (s:Od):List Value:=[.int .i64 (s.at_:Int),.int .i64 s.stg,.int .i64 s.en,.int .i64 s.snc,.int .i64 s.row]
def odCs (l:List Od):List Value:=l.flatMap odC
theorem odCs_length (l:List Od):(odCs l).length=l.length*5:=by
 induction l with
 | nil=>rfl
 | cons a r ih =>
  unfold odCs at ih ⊢
  rw[List.flatMap_cons,List.length_append,ih,List.length_cons]
  show 5+_=_
  omega
theorem odCs_append (a b:List Od):odCs (a++b)=odCs a++odCs b:=by unfold odCs;rw[List.flatMap_append]
structure OdC (w:World) (go k:Nat) (x:Od):Prop where
 c0:w.cell? ⟨go,k,none⟩=some (.int .i64 (x.at_:Int))
 c1:w.cell? ⟨go,k+1,none⟩=some (.int .i64 x.stg)
 c2:w.cell? ⟨go,k+2,none⟩=some (.int .i64 x.en)
 c3:w.cell? ⟨go,k+3,none⟩=some (.int .i64 x.snc)
 c4:w.cell? ⟨go,k+4,none⟩=some (.int .i64 x.row)
theorem OdC.same {x:Od} (h:OdC w go k x) (hb:w'.heap[go]?=w.heap[go]?):OdC w' go k x :=
 ⟨(cell_blk hb).trans h.c0,(cell_blk hb).trans h.c1,(cell_blk hb).trans h.c2,(cell_blk hb).trans h.c3,(cell_blk hb).trans h.c4⟩
structure OdR (w:World) (go cap:Nat) (l:List Od):Prop where
 ex:∃ cur:Array Value,w.heap[go]?=some (.cells cur 94 (0,0))/\l.length<=cap/\cap<=maxLen/\cur.size=cap*5/\cur.toList.take (l.length*5)=odCs l
theorem OdR.same {cap:Nat} {l:List Od} (h:OdR w go cap l) (hb:w'.heap[go]?=w.heap[go]?):OdR w' go cap l:=by
 obtain⟨cur,h1,r⟩:=h.ex
 exact⟨cur,hb.trans h1,r⟩
theorem OdR.lt {cap:Nat} {l:List Od} (h:OdR w go cap l):go<w.heap.size:=by
 obtain⟨cur,h1,_⟩:=h.ex
 exact(Array.getElem?_eq_some_iff.1 h1).1
theorem OdR.cap {cap:Nat} {l:List Od} (h:OdR w go cap l):l.length<=cap:=by
 obtain⟨cur,_,h1,_⟩:=h.ex
 exact h1
theorem OdR.owns {cap:Nat} {l:List Od} (h:OdR w go cap l) {base:Nat} (hb:base<=go):w.ownsRow base 94 5 (.slice (some ⟨go,0,none⟩) l.length cap) l.length (odCs l):=by
 obtain⟨cur,h1,h2,h3,h4,h5⟩:=h.ex
 exact⟨odCs_length l,.inr ⟨go,cap,cur,rfl,hb,h1,h2,h3,h4,h5⟩⟩
theorem OdR.cell {cap:Nat} {l:List Od} (h:OdR w go cap l) {u:Value} (hu:(odCs l)[j]?=some u):w.cell? ⟨go,j,none⟩=some u:=by
 obtain⟨cur,h1,h2,h3,h4,h5⟩:=h.ex
 rw[<- h5,List.getElem?_take] at hu
 split at hu
 ·simp only[World.cell?,h1]
  simpa using hu
 ·cases hu
theorem OdR.less {cap:Nat} {L M:List Od} (h:OdR w go cap (L++M)):OdR w go cap L:=by
 obtain⟨cur,h1,h2,h3,h4,h5⟩:=h.ex
 rw[List.length_append] at h2
 refine⟨cur,h1,by omega,h3,h4,?_⟩
 have:=congrArg (List.take (L.length*5)) h5
 rw[List.take_take,odCs_append,List.take_left' (odCs_length L)] at this
 rw[<- this,List.length_append]
 congr 1
 omega
theorem odCs_last (L:List Od) (x:Od) (j:Nat) (hj:j<5):(odCs (L++[x]))[L.length*5+j]?=(odC x)[j]?:=by
 rw[odCs_append,List.getElem?_append_right (by rw[odCs_length];omega),odCs_length]
 rw[show L.length*5+j-L.length*5=j by omega]
 unfold odCs
 rw[List.flatMap_cons,List.flatMap_nil,List.append_nil]
theorem OdR.last {cap:Nat} {L:List Od} {x:Od} (h:OdR w go cap (L++[x])):OdC w go (L.length*5) x :=
 have c:=fun j u (hj:j<5) (hu:(odC x)[j]?=some u)=>h.cell ((odCs_last L x j hj).trans hu)
 ⟨c 0 _ (by decide) rfl,c 1 _ (by decide) rfl,c 2 _ (by decide) rfl,c 3 _ (by decide) rfl,c 4 _ (by decide) rfl⟩
theorem OdR.at {cap:Nat} {l:List Od} (h:OdR w go cap l) {x:Od} (hk:l[k]?=some x):OdC w go (k*5) x:=by
 obtain⟨h1,h2⟩:=List.getElem?_eq_some_iff.1 hk
 have e:l=(l.take k++[x])++l.drop (k+1):=by
  rw[<- take_at hk,List.take_append_drop]
 rw[e] at h
 have:=h.less.last
 rwa [List.length_take,Nat.min_eq_left (by omega)] at this
theorem OdR.set {cap:Nat} {L:List Od} {x x':Od} (h:OdR w go cap (L++[x])) (hj:j<5) (hx:odC x'=(odC x).set j v):OdR (w.setCell ⟨go,L.length*5+j,none⟩ v) go cap (L++[x']):=by
 obtain⟨cur,h1,h2,h3,h4,h5⟩:=h.ex
 have hl:(L++[x]).length=(L++[x']).length:=by simp
 refine⟨cur.setIfInBounds (L.length*5+j) v,?_,by rw[<- hl];exact h2,h3,by rw[Array.size_setIfInBounds];exact h4,?_⟩
 ·show (w.heap.modify go _)[go]?=_
  rw[Array.getElem?_modify,if_pos rfl,h1]
  rfl
 ·rw[Array.toList_setIfInBounds,List.take_set,<- hl,h5,odCs_append,odCs_append,List.set_append_right _ _ (by rw[odCs_length];omega),odCs_length]
  rw[show L.length*5+j-L.length*5=j by omega]
  congr 1
  unfold odCs
  rw[List.flatMap_cons,List.flatMap_nil,List.append_nil,List.flatMap_cons,List.flatMap_nil,List.append_nil,hx]
theorem OdR.frz {cap:Nat} {l:List Od} (h:OdR w go cap l) (j:Nat):w.frozen? ⟨go,j,none⟩=false:=by
 obtain⟨cur,h1,_⟩:=h.ex
 simp[World.frozen?,h1]
def dsA (f:Fm) (pp:Option Addr) (cp:Nat) (vo vi:Value):Array Value:=#[.int .i64 f.ord,.int .i64 f.sch,.int .i64 f.ver,.int .i64 f.hsz,.int .i64 f.hb.p,.int .i64 f.hb.o,.int .i64 f.ht.p,.int .i64 f.ht.o,.int .i64 f.hs.p,.int .i64 f.hs.o,.int .i64 f.hv.p,.int .i64 f.hv.o,.slice pp f.toks.length cp,vo,vi]
def DsH (w:World) (B:Nat) (f:Fm) (pp:Option Addr) (cp:Nat) (vo vi:Value):Prop:=w.heap[B]?=some (.cells (dsA f pp cp vo vi) 90 (0,0))
section
variable {w:World} {B:Nat} {f:Fm} {pp:Option Addr} {cp:Nat} {vo vi:Value}
theorem DsH.lt (h:DsH w B f pp cp vo vi):B<w.heap.size:=(Array.getElem?_eq_some_iff.1 h).1
theorem DsH.cell (h:DsH w B f pp cp vo vi) (k:Nat):w.cell? ⟨B,k,none⟩=(dsA f pp cp vo vi)[k]?:=cell_at h k
theorem DsH.fm (h:DsH w B f pp cp vo vi):FmC w B 0 f pp cp:=⟨h.cell 0,h.cell 1,h.cell 2,h.cell 3,h.cell 4,h.cell 5,h.cell 6,h.cell 7,h.cell 8,h.cell 9,h.cell 10,h.cell 11,h.cell 12⟩
theorem DsH.c12 (h:DsH w B f pp cp vo vi):w.cell? ⟨B,12,none⟩=some (.slice pp f.toks.length cp):=h.cell 12
theorem DsH.c13 (h:DsH w B f pp cp vo vi):w.cell? ⟨B,13,none⟩=some vo:=h.cell 13
theorem DsH.c14 (h:DsH w B f pp cp vo vi):w.cell? ⟨B,14,none⟩=some vi:=h.cell 14
theorem DsH.frz (h:DsH w B f pp cp vo vi) (k:Nat):w.frozen? ⟨B,k,none⟩=false:=by
 unfold DsH at h
 simp[World.frozen?,h]
theorem DsH.same (h:DsH w B f pp cp vo vi) (hb:w'.heap[B]?=w.heap[B]?):DsH w' B f pp cp vo vi:=hb.trans h
theorem DsH.put (h:DsH w B f pp cp vo vi) (k:Nat) (v:Value):(w.setCell ⟨B,k,none⟩ v).heap[B]?=some (.cells ((dsA f pp cp vo vi).setIfInBounds k v) 90 (0,0)):=by
 show (w.heap.modify B _)[B]?=_
 unfold DsH at h
 rw[Array.getElem?_modify,if_pos rfl,h]
 rfl
theorem DsH.setO (h:DsH w B f pp cp vo vi) (v:Value):DsH (w.setCell ⟨B,13,none⟩ v) B f pp cp v vi:=h.put 13 v
theorem DsH.setI (h:DsH w B f pp cp vo vi) (v:Value):DsH (w.setCell ⟨B,14,none⟩ v) B f pp cp vo v:=h.put 14 v
end
def idC (l:List Int):List Value:=l.map (Value.int .i64 ·)
structure Df where
 B:Nat
 go:Nat
 cap:Nat
 g:Nat
 o:Nat
 cp:Nat
 H:Nat
 i:Nat
structure Dap (c:Df) (vi:Value):Prop where
 g:c.g<c.H
 B:c.H<=c.B
 go:c.H<=c.go
 Bo:c.B≠c.go
 iB:vi.ownBlock≠some c.B
 io:vi.ownBlock≠some c.go
structure Dt (w:World) (c:Df) (f:Fm) (L:List Od) (x:Od) (xt t:Tk) (ids:List Int) (vi:Value):Prop where
 ds:DsH w c.B f (some ⟨c.g,c.o,none⟩) c.cp (.slice (some ⟨c.go,0,none⟩) (L.length+1) c.cap) vi
 op:OdR w c.go c.cap (L++[x])
 ir:w.ownsRow c.H 3 1 vi ids.length (idC ids)
 tl:TkL w (some ⟨c.g,c.o,none⟩) c.H f.toks
 hx:f.toks[x.at_]?=some xt
 ht:f.toks[c.i]?=some t
 ap:Dap c vi
 sz:c.H<=w.heap.size
 ln:L.length<1000000000000
section
variable {w w':World} {c:Df} {f:Fm} {L:List Od} {x x':Od} {xt t:Tk} {ids:List Int} {vi:Value}
theorem Dt.lg (h:Dt w c f L x xt t ids vi):c.g<w.heap.size:=Nat.lt_of_lt_of_le h.ap.g h.sz
theorem Dt.ll (h:Dt w c f L x xt t ids vi):f.toks.length<=733007751850:=by have:=h.tl.len;omega
theorem Dt.il (h:Dt w c f L x xt t ids vi):c.i<f.toks.length:=(List.getElem?_eq_some_iff.1 h.ht).1
theorem Dt.xl (h:Dt w c f L x xt t ids vi):x.at_<f.toks.length:=(List.getElem?_eq_some_iff.1 h.hx).1
theorem Dt.below (h:Dt w c f L x xt t ids vi) (hb:Below w.heap.size w w'):Dt w' c f L x xt t ids vi :=
 ⟨h.ds.same (hb.block _ h.ds.lt),h.op.same (hb.block _ h.op.lt),own_alloc2 h.ir hb,h.tl.below (hb.mono h.sz),h.hx,h.ht,h.ap,Nat.le_trans h.sz hb.size,h.ln⟩
theorem Dt.tk (h:Dt w c f L x xt t ids vi):∃ pc cc,TkC w c.g (c.o+c.i*21) t pc cc/\URow w pc c.H t.cst/\t.cst.length<=cc/\TkOk t:=by
 obtain⟨g,o,pc,cc,e,_,h1,h2,h3,h4⟩:=h.tl.at h.ht
 cases e
 exact⟨pc,cc,h1,h2,h3,h4⟩
theorem Dt.xk (h:Dt w c f L x xt t ids vi):∃ pc cc,TkC w c.g (c.o+x.at_*21) xt pc cc/\TkOk xt:=by
 obtain⟨g,o,pc,cc,e,_,h1,_,_,h4⟩:=h.tl.at h.hx
 cases e
 exact⟨pc,cc,h1,h4⟩
theorem Dt.sc (h:Dt w c f L x xt t ids vi):OdC w c.go (L.length*5) x:=h.op.last
theorem Dt.wrote (h:Dt w c f L x xt t ids vi) (hj:j<5) (hx:odC x'=(odC x).set j v) (ha:x'.at_=x.at_):Dt (w.setCell ⟨c.go,L.length*5+j,none⟩ v) c f L x' xt t ids vi:=by
 have hb:Kb [c.go] w (w.setCell ⟨c.go,L.length*5+j,none⟩ v):=(Kb.refl _ _).set (List.mem_singleton.2 rfl) v
 have a:=h.ap
 have nl:∀ k,k<c.H->k∉[c.go]:=fun k hk e=>by have:=a.go;have:=List.mem_singleton.1 e;omega
 refine⟨h.ds.same (hb.block _ h.ds.lt (notin1 a.Bo)),h.op.set hj hx,?_,⟨h.tl.row.same fun k hk=>hb.block k (Nat.lt_of_lt_of_le hk h.sz) (nl k hk),h.tl.len,h.tl.ok⟩,by rw[ha];exact h.hx,h.ht,h.ap,Nat.le_trans h.sz hb.size,h.ln⟩
 refine⟨h.ir.1,?_⟩
 rcases h.ir.2 with h0|⟨g,cap,cur,e,hb',hg,r⟩
 ·exact .inl h0
 ·refine .inr ⟨g,cap,cur,e,hb',(hb.block g (Array.getElem?_eq_some_iff.1 hg).1 (notin1 fun e'=>?_)).trans hg,r⟩
  apply a.io
  rw[e,e']
  rfl
end
abbrev sp0:Sp:=⟨0,0⟩
def maskD (t:Tk):Tk :=
 if t.op=0 then ⟨t.op,t.name,t.id,0,0,t.since,0,0,0,0,0,0,[],0,t.blk,t.full,sp0,sp0,t.pair⟩ else
 if t.op=4 then ⟨t.op,t.name,t.id,0,t.siz,t.since,0,0,0,0,0,0,[],0,t.blk,t.full,t.a,t.b,t.pair⟩ else
 if t.op=2 then ⟨t.op,t.name,t.id,t.off,t.siz,t.since,0,0,t.pres,0,0,0,t.cst,0,0,0,sp0,sp0,t.pair⟩ else
 if t.op=6 then ⟨t.op,t.name,t.id,0,t.siz,t.since,t.prim,0,0,0,0,0,[],0,0,0,t.a,sp0,t.pair⟩ else
 if t.op=8 then ⟨t.op,t.name,0,t.off,t.siz,0,0,0,0,0,0,0,[],0,0,0,sp0,sp0,t.pair⟩ else
 if t.op=10\/t.op=12 then ⟨t.op,t.name,0,t.off,t.siz,0,0,0,t.pres,0,0,0,[],0,0,0,sp0,sp0,t.pair⟩ else
 if t.op=14 then ⟨t.op,t.name,0,t.off,t.siz,0,t.prim,t.len,t.pres,t.nul,t.lo,t.hi,t.cst,0,0,0,sp0,sp0,t.pair⟩ else
 if t.op=15 then ⟨t.op,t.name,0,0,0,t.since,0,0,0,0,0,0,[],t.val,0,0,sp0,sp0,t.pair⟩ else
 ⟨t.op,t.name,0,0,0,0,0,0,0,0,0,0,[],0,0,0,sp0,sp0,t.pair⟩
theorem maskD_iff (t:Tk):maskD t=t↔plainB t=true:=by
 obtain⟨op,nm,id,off,siz,si,pr,len,ps,nul,lo,hi,cst,val,blk,full,⟨ap,ao⟩,⟨bp,bo⟩,pair⟩:=t
 unfold maskD plainB nzs mays
 simp only
 by_cases h0:op=0
 ·subst h0;simp[subB];constructor<;>intro h<;>simp_all<;>(try omega)
 by_cases h4:op=4
 ·subst h4;simp[subB];constructor<;>intro h<;>simp_all<;>(try omega)
 by_cases h2:op=2
 ·subst h2;simp[subB];constructor<;>intro h<;>simp_all<;>(try omega)
 by_cases h6:op=6
 ·subst h6;simp[subB];constructor<;>intro h<;>simp_all<;>(try omega)
 by_cases h8:op=8
 ·subst h8;simp[subB];constructor<;>intro h<;>simp_all<;>(try omega)
 by_cases h10:op=10\/op=12
 ·rcases h10 with h|h<;>· subst h;simp[subB];constructor<;>intro h<;>simp_all<;>(try omega)
 by_cases h14:op=14
 ·subst h14;simp[subB];constructor<;>intro h<;>simp_all<;>(try omega)
 by_cases h15:op=15
 ·subst h15;simp[subB];constructor<;>intro h<;>simp_all<;>(try omega)
 simp only[h0,h4,h2,h6,h8,h10,h14,h15,if_false]
 simp[subB]
 constructor<;>intro h<;>simp_all<;>(try omega)
def fldR (f:Fm) (i:Nat) (x:Sc) (t:Tk):Bool:=bet t.since x.fld f.ver&&(if t.pres=0 then decide (t.since=x.tk.since)&&inB f.toks i x t else if t.pres=1 then inB f.toks i x t else if t.pres=2 then decide (t.off=0/\t.siz=0/\t.cst.length≠0) else false)
theorem fld_split (f:Fm) (ids:List Int) (i:Nat) (x:Sc) (t:Tk):fldB f ids i x t=(newB f.toks ids x t&&fldR f i x t):=by unfold fldB fldR;rw[Bool.and_assoc]
theorem fldR_iff {u:Tk} (he:0<=x.e0) (hf:x.tk.since<=x.fld) (hb:0<=x.tk.blk) (hu:f.toks[i+1]?=some u):fldR f i x t=true ↔
  (x.tk.since<=t.since/\x.fld<=t.since/\t.since<=f.ver/\0<=t.pres/\t.pres<=2/\(t.pres=0->t.since=x.tk.since))/\((t.pres=2/\t.off=0/\t.siz=0/\0<t.cst.length)\/(t.pres≠2/\t.cst.length=0/\0<=t.siz/\0<=t.off/\(t.siz=0->t.off=0)/\t.off<=x.tk.blk/\t.siz<=x.tk.blk-t.off/\u.siz=t.siz/\(0<t.siz->x.e0<=t.off))):=by
 unfold fldR inB bet
 rw[hu]
 generalize t.cst.length=n
 by_cases h0:t.pres=0
 ·by_cases hz:t.siz=0<;>simp[h0,hz]<;>omega
 by_cases h1:t.pres=1
 ·by_cases hz:t.siz=0<;>simp[h1,hz]<;>omega
 by_cases h2:t.pres=2
 ·simp only[h2,if_true]
  simp
  omega
 ·simp[h0,h1,h2]
  omega
def grpR (f:Fm) (o:List Sc) (x:Sc) (t:Tk):Bool:=rowB f x t&&(blkB t&&bet t.siz 1 65535)&&(lieB t.a t.siz&&lieB t.b t.siz&&aptB t.a t.b&&telB t.a t.full&&decide (depB 4 o<8))
theorem apt_comm (a b:Sp):aptB a b=aptB b a:=by unfold aptB;rw[Bool.eq_iff_iff];simp;omega
theorem grp_split (f:Fm) (o:List Sc) (ids:List Int) (x:Sc) (t:Tk):grpB f o ids x t=(newB f.toks ids x t&&grpR f o x t):=by
 unfold grpB grpR
 rw[apt_comm t.a t.b,Bool.eq_iff_iff]
 simp only[Bool.and_eq_true]
 constructor
 ·rintro⟨⟨⟨⟨⟨⟨h1,h2⟩,h3⟩,h4⟩,h5⟩,h6,h7,h8⟩,h9⟩;exact⟨h2,⟨h3,h4,h5⟩,⟨⟨⟨h6,h7⟩,h8⟩,h9⟩,h1⟩
 ·rintro⟨h2,⟨h3,h4,h5⟩,⟨⟨⟨h6,h7⟩,h8⟩,h9⟩,h1⟩;exact⟨⟨⟨⟨⟨⟨h1,h2⟩,h3⟩,h4⟩,h5⟩,h6,h7,h8⟩,h9⟩
def datR (f:Fm) (x:Sc) (t:Tk):Bool:=rowB f x t&&(decide (t.a.o=0)&&lieB t.a 4&&decide (t.siz=sz t.a.p)&&decide (t.prim=0\/t.prim=5))
theorem sz_num {p:Int} (h:numB p=true):0<sz p/\sz p<=4:=by
 unfold numB at h
 rcases decT h with rfl|rfl|rfl<;>decide
theorem dat_split (f:Fm) (ids:List Int) (x:Sc) (t:Tk):datB f ids x t=(newB f.toks ids x t&&datR f x t):=by
 unfold datB datR lieB
 rw[Bool.eq_iff_iff]
 simp only[Bool.and_eq_true,decide_eq_true_eq]
 constructor
 ·rintro⟨⟨⟨⟨⟨h1,h2⟩,h3⟩,h4⟩,h5⟩,h6⟩
  have:=sz_num h4
  exact⟨h1,h2,⟨⟨h3,h4,by omega,by omega⟩,h5⟩,h6⟩
 ·rintro⟨h1,h2,⟨⟨h3,h4,_⟩,h5⟩,h6⟩
  exact⟨⟨⟨⟨⟨h1,h2⟩,h3⟩,h4⟩,h5⟩,h6⟩
theorem rowB_iff (hr:x.tk.since<=x.row):rowB f x t=true↔((x.tk.op=4->t.since=x.tk.since)/\(x.tk.op≠4->x.tk.since<=t.since/\x.row<=t.since/\t.since<=f.ver)):=by
 unfold rowB bet
 by_cases h:x.tk.op=4
 ·simp[h]
 ·simp[h];omega
theorem blkB_iff:(blkB t&&bet t.siz 1 65535)=true↔(1<=t.siz/\t.siz<=65535/\0<=t.blk/\t.blk<=t.full/\t.full<=65535):=by
 unfold blkB bet
 simp
 omega
theorem plcB_iff (ho:x.tk.op=2\/x.tk.op=8\/x.tk.op=10\/x.tk.op=12):plcB x t=true↔(0<=t.siz/\t.siz<=65535/\0<=t.pres/\t.pres<=2)/\(x.tk.op=2->t.off=0) /\
  (x.tk.op=10\/x.tk.op=12->t.off=x.tk.off/\t.siz=x.tk.siz/\t.pres=x.tk.pres/\t.len=1/\(x.tk.op=10->t.prim≠9/\t.prim≠10)/\(x.tk.op=12->5<=t.prim/\t.prim<=8)) /\
  (x.tk.op=8->x.tk.off<=t.off/\t.off<=x.tk.off+x.tk.siz/\t.siz<=x.tk.off+x.tk.siz-t.off/\(0<t.siz->x.e0<=t.off)):=by
 unfold plcB codB memB bet
 rcases ho with h|h|h|h<;>simp[h]<;>omega
def encR (t:Tk):Bool:=bet t.len 1 65535&&(fitsP t.prim t.nul&&fitsP t.prim t.lo&&fitsP t.prim t.hi)&&(if t.pres=2 then decide (t.siz=0)&&decide ((t.cst.length:Int)=t.len)&&t.cst.all (fitsP t.prim) else decide (t.siz=t.len*sz t.prim)&&decide (t.cst.length=0))
theorem enc_split (x:Sc) (t:Tk):encB x t=(plcB x t&&encR t):=by unfold encB encR;simp only[Bool.and_assoc]
theorem nameIn_no {s:ByteArray}:nameIn l ks s=false↔∀ k∈ks,∀ u,l[k]?=some u->u.name≠s:=by
 unfold nameIn
 rw[List.any_eq_false]
 constructor
 ·intro h k hk u hu e
  have:=h k hk
  rw[hu] at this
  simp[e] at this
 ·intro h k hk
  cases hu:l[k]? with
  | none=>simp
  | some u=>simpa using h k hk u hu
theorem valIn_no {s:Int}:valIn l ks s=false↔∀ k∈ks,∀ u,l[k]?=some u->u.val≠s:=by
 unfold valIn
 rw[List.any_eq_false]
 constructor
 ·intro h k hk u hu e
  have:=h k hk
  rw[hu] at this
  simp[e] at this
 ·intro h k hk
  cases hu:l[k]? with
  | none=>simp
  | some u=>simpa using h k hk u hu
theorem cho_no (hk:x.kids=List.range' (x.at_+1) (i-(x.at_+1))):(nameIn l x.kids.tail t.name=false/\valIn l x.kids.tail t.val=false)↔∀ k,x.at_+2<=k->k<i->∀ u,l[k]?=some u->¬ (u.name=t.name\/u.val=t.val):=by
 have e:x.kids.tail=List.range' (x.at_+2) (i-(x.at_+2)):=by
  rw[hk]
  by_cases h:x.at_+1<i
  ·rw[show i-(x.at_+1)=(i-(x.at_+2))+1 by omega,List.range'_succ]
   rfl
  ·rw[show i-(x.at_+1)=0 by omega,show i-(x.at_+2)=0 by omega]
   rfl
 rw[nameIn_no,valIn_no,e]
 constructor
 ·rintro⟨h1,h2⟩ k hk1 hk2 u hu
  have hm:k∈List.range' (x.at_+2) (i-(x.at_+2)):=List.mem_range'_1.2 (by omega)
  exact fun e=>e.elim (h1 k hm u hu) (h2 k hm u hu)
 ·intro h
  refine⟨fun k hm u hu e=>?_,fun k hm u hu e=>?_⟩
  ·have:=List.mem_range'_1.1 hm
   exact h k (by omega) (by omega) u hu (.inl e)
  ·have:=List.mem_range'_1.1 hm
   exact h k (by omega) (by omega) u hu (.inr e)
theorem stg_met (hx:ScOk l i x) (ht:l[i]?=some t) (hm:mayB l x t.op=true) (he:edO t.op=false) :
  stgO l (metX x i t)=if t.op=4 then 1 else if t.op=6 then 2 else if tyO t.op then stgO l x+1 else stgO l x:=by
 have hl:lastOp l (metX x i t)=t.op:=by unfold lastOp metX;simp[ht]
 have hk:(metX x i t).kids=x.kids++[i]:=rfl
 have htk:(metX x i t).tk=x.tk:=rfl
 have h2:=may_typ hm he hx.beg
 unfold stgO
 rw[hl,hk,htk]
 rcases h2 with ⟨h0,hp,hle⟩|⟨h0,hz,hty⟩|⟨h0,hty⟩|⟨h0,⟨hz,h14⟩|⟨hz,h15⟩⟩
 ·rw[if_pos h0,if_pos h0]
  unfold ptO at hp
  have hp:=decT hp
  have hll:=last_par hx h0
  rcases hp with e|e|e
  ·rw[e]
   have:lastOp l x=0\/lastOp l x=2:=by omega
   rcases this with e|e<;>rw[e]<;>rfl
  ·rw[e];rfl
  ·rw[e];rfl
 ·have hy:=hty
  unfold tyO at hty
  have hty:=decT hty
  have a1:¬ (x.tk.op=0\/x.tk.op=4):=by omega
  have a2:¬ (x.tk.op=10\/x.tk.op=12):=by omega
  have a3:¬ t.op=4:=by omega
  have a4:¬ t.op=6:=by omega
  rw[if_neg a1,if_neg a2,if_neg a3,if_neg a4,if_pos hy,if_neg a1,if_neg a2]
  simp
 ·have hy:=hty
  unfold tyO at hty
  have hty:=decT hty
  have a1:¬ (x.tk.op=0\/x.tk.op=4):=by omega
  have a2:¬ (x.tk.op=10\/x.tk.op=12):=by omega
  have a3:¬ t.op=4:=by omega
  have a4:¬ t.op=6:=by omega
  rw[if_neg a1,if_neg a2,if_neg a3,if_neg a4,if_pos hy,if_neg a1,if_neg a2]
  simp
 ·have a1:¬ (x.tk.op=0\/x.tk.op=4):=by omega
  rw[h14,if_neg a1,if_pos h0,if_neg (by simp),if_neg (by decide),if_neg (by decide),if_pos (by decide),if_neg a1,if_pos h0]
  simp[hz]
 ·have a1:¬ (x.tk.op=0\/x.tk.op=4):=by omega
  rw[h15,if_neg a1,if_pos h0,if_neg (by simp),if_neg (by decide),if_neg (by decide),if_neg (by decide),if_neg a1,if_pos h0]
  simp[hz]
end Go.Proofs.YtbhmciieiilcfaaGreatDoor

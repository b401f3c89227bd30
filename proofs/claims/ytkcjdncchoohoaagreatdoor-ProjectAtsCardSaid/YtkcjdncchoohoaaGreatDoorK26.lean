import Derived.Test.YtkcjdncchoohoaaGreatDoorK25
namespace Go.Proofs.YtkcjdncchoohoaaGreatDoor
set_option maxRecDepth 1000000
set_option maxHeartbeats 16000000
open Go.ChangeShapes Go.WideShapes Go.ChangeAt Go.RowKit Go.Shelf Go.Maps
theorem opL_length {f:Fm} (hz:chkZ f=none) {j:Nat} (hj:j<=f.toks.length):(opL (stA f j)).length<=j:=by
 have h1:=stkD_length (f.toks.take j) []
 rw[stk_open hz j hj,List.length_map,List.length_take] at h1
 unfold opL
 rw[List.length_reverse,List.length_map]
 simp at h1
 omega
theorem cam_go {W:World} {B tb:Nat} {vc vo:Value} {cs os:List Nat} (M:Cmo W B vc vo cs os) (k m:Nat) (hl:cs.length+1<=1000000000000) (ho:os.length+1<=1000000000000) (hB:B<=W.heap.size) (htb:tb<W.heap.size) (hv:vc.ownBlock≠some tb) :
  ∃ pv cv w',Hid (∀ ty,(Builtin.append_ #[38,38] ty #[vc,.slice (some ⟨W.heap.size,0,none⟩) 1 1]).run Tryz.prog (W.alloc (.cells #[.int .i64 (k:Int)] 3)) = .ok (.slice pv (cs.length+1) cv) w')/\w'.heap[tb]?=W.heap[tb]?/\Hid (Cmo w' B (.slice pv (cs.length+1) cv) vo (cs++[k]) os/\Below B W w') /\
   ∃ po co w'',Hid (∀ ty,(Builtin.append_ #[38,38] ty #[vo,.slice (some ⟨w'.heap.size,0,none⟩) 1 1]).run Tryz.prog (w'.alloc (.cells #[.int .i64 (m:Int)] 3)) = .ok (.slice po (os.length+1) co) w'')/\Hid (Cmo w'' B (.slice pv (cs.length+1) cv) (.slice po (os.length+1) co) (cs++[k]) (os++[m])/\Below B W w''):=by
 obtain⟨v',w',a1,a2,a3,a4⟩:=M.addC k hl hB
 obtain⟨v'',w'',b1,b2,b3⟩:=a2.addO m ho (Nat.le_trans hB a3.size)
 obtain⟨pv,cv,e,-⟩:=a2.c.shape
 obtain⟨po,co,e2,-⟩:=b2.o.shape
 rw[List.length_append,List.length_singleton] at e e2
 subst e e2
 exact⟨pv,cv,w',⟨a1⟩,a4 tb htb hv,⟨a2,a3⟩,po,co,w'',⟨b1⟩,⟨b2,a3.trans b3⟩⟩
theorem dCame_any (f:Fm) (pp:Option Addr) (cp:Nat) (w:World) (hz:chkZ f=none) (tl:TkL w pp w.heap.size f.toks) (hlm:f.toks.length*192<=140737488351232) :
  Calls Tryz.prog 20 #[fmV f pp cp] w fun e w'=>∃ v,e = .returned v/\NRow w' w.heap.size v (camZ f)/\Below w.heap.size w w':=by
 have hb:=bel1 w (fmO f pp cp)
 have H1:=heap_al w (fmO f pp cp)
 have hs1:(w.alloc (fmO f pp cp)).heap.size=w.heap.size+1:=World.size_alloc _ _
 generalize hW:w.alloc (fmO f pp cp)=W1 at hb H1 hs1
 simp only[fmO] at hW
 have hll:f.toks.length<=733007751850:=by omega
 have hT:Hid _:=⟨tl.below hb⟩
 have hZ:Hid _:=⟨hz⟩
 have hF:Hid _:=⟨H1⟩
 have hBW:Hid _:=⟨hb⟩
 have hS1:Hid _:=⟨hs1⟩
 clear hb H1 hs1 tl hz hlm
 go_enter Tryz.func20,Tryz.ntmps20
 go_wp2_with fail
 go_loopw [3,4,5] (fun vc vo q wr=>∃ j:Nat,j<=f.toks.length/\q = .int .i64 (j:Int)/\Hid (Cmo wr W1.heap.size vc vo (camF (f.toks.take j) []) (opL (stA f j))/\Below W1.heap.size W1 wr)) (fun _ _ q _=>f.toks.length-(RowKit.intOf q).toNat)
 case atStart=>exact⟨0,Nat.zero_le _,by go_num,⟨⟨NRow.nil _ _,NRow.nil _ _,fun k hk=>by simp[Value.ownBlock] at hk⟩,Below.refl _ _⟩⟩
 case round =>
  obtain⟨j,hj,rfl,hI⟩:=hrel
  have hM:Hid _:=⟨hI.out.1⟩
  have hB:Hid _:=⟨hI.out.2⟩
  clear hI
  have x12:wr.cell? ⟨w.heap.size,12,none⟩=some (.slice pp f.toks.length cp):=cell_at ((hB.out.block _ (by have:=hS1.out;omega)).trans hF.out) 12
  by_cases hlt:j<f.toks.length
  ·obtain⟨t,ht⟩:∃ t,f.toks[j]?=some t:=⟨f.toks[j],List.getElem?_eq_getElem hlt⟩
   obtain⟨gf,ofs,pc,cc,rfl,hgf,hTk,-,-⟩:=hT.out.row.c j t ht
   have hT1:=hTk.below hgf ((hB.out.mono (Nat.le_refl _)).mono (by have:=hS1.out;omega))
   have l1:Hid _:=⟨hT1.load⟩
   obtain⟨W2,s1,hA,hb1,hz1⟩:=ld_new wr t pc cc
   have hji:(j:Int)<f.toks.length:=by omega
   have hcl:(camF (f.toks.take j) []).length=j:=by rw[camF_length,List.length_take];omega
   have hol:=opL_length hZ.out hj
   have M2:=hM.out.below hb1
   have hw2:W1.heap.size<=W2.heap.size:=Nat.le_trans hB.out.size hb1.size
   have htb:wr.heap.size<W2.heap.size:=by omega
   have BW:Below W1.heap.size W1 W2:=hB.out.trans (hb1.mono hB.out.size)
   have ec:camF (f.toks.take (j+1)) []=camF (f.toks.take j) []++[(camS (stkD (f.toks.take j) []) t).1]:=by rw[take_snoc ht,camF_append];rfl
   have vcT:u3.ownBlock≠some wr.heap.size:=fun e=>by have:=(hM.out.c.ltP _ e).2;omega
   have p20:∀ V:World,V.heap[wr.heap.size]?=W2.heap[wr.heap.size]?->V.cell? ⟨wr.heap.size,20,none⟩=some (.int .i64 t.pair):=fun V hV=>(hA.same hV).c20
   have y20:W2.cell? ⟨wr.heap.size,20,none⟩=some (.int .i64 t.pair):=p20 W2 rfl
   replace s1:=Hid.mk s1
   have lA:Hid _:=⟨hA.load⟩
   have hZ1:Hid _:=⟨hz1⟩
   clear hT1 hTk
   rcases val_tok hZ.out ht with ⟨he,hbg,x,o,hx,hp,hxj⟩|hrest
   ·obtain⟨c,hc1,hc2⟩:=cam_at hZ.out ht hx
    rw[if_pos he] at hc2
    obtain⟨ho1,ho2⟩:=opL_end ht he hx
    rw[hc2] at ec
    rw[ho1] at M2 hol
    rw[hp] at y20
    have hNX:Hid (camF (f.toks.take (j+1)) []=camF (f.toks.take j) []++[c]/\opL (stA f (j+1))=(o.map Sc.at_).reverse):=⟨ec,ho2⟩
    clear p20 lA ec ho1 ho2 hc2 he hbg hx hp ht hM vcT
    generalize camF (f.toks.take j) []=cs at M2 hcl hc1 hNX
    generalize (o.map Sc.at_).reverse=r at M2 hol hNX
    generalize x.at_=xa at M2 hol y20 hc1 hxj
    obtain⟨v',w',a1,m1,b1,-⟩:=M2.addC c (by omega) hw2
    obtain⟨go,co,rfl,hco⟩:∃ go co,u4 = .slice (some ⟨go,0,none⟩) (r.length+1) co/\r.length+1<=co:=by
     obtain⟨po,co,e,-⟩:=M2.o.shape
     rw[e] at M2
     obtain⟨_,e2,e3,g,rfl⟩:=M2.o.pop
     exact⟨g,co,by rw[e,e2],e3⟩
    obtain⟨pv,cv,rfl,-⟩:=M2.c.shape
    obtain⟨gc,rfl,-,-,k1⟩:=M2.c.cellP hc1
    obtain⟨pv',cv',rfl,-⟩:=m1.c.shape
    have hlen:(cs++[c]).length=j+1:=by simp[hcl]
    have hFN:Hid (Cmo w' W1.heap.size (.slice pv' (j+1) cv') (.slice (some ⟨go,0,none⟩) r.length co) (cs++[c]) r/\Below W1.heap.size W1 w'):=by rw[<- hlen];exact⟨⟨m1.c,(NRow.pop m1.o).1,fun k hk=>m1.ap k hk⟩,BW.trans b1⟩
    have hrl:r.length+1<=733007751850:=by rw[List.length_append] at hol;simp at hol;omega
    have hrc:((r.length:Int))<=co:=by omega
    have hxi:(xa:Int)<j:=by omega
    have hxc:(xa:Int)<cs.length:=by omega
    replace a1:=Hid.mk a1
    clear M2 hol hc1 m1 b1 BW hb1 hz1 hw2 htb hco hlen
    go_wp2_with (first
     | (guard_target =~ wpList _ _ _ (Oper.mk _ (Op.load 47 _) _ _ _ _::_) _ _;go_must (refine wpList_ld 47 _ rfl rfl _ _ rfl l1.out ?_);simp only[pts])
     | (guard_target =~ wpList _ _ _ (Oper.mk _ (Op.store 47 _ _) _ _ _ _::_) _ _;go_must (refine wpList_st 47 _ _ rfl rfl _ _ rfl rfl (s1.out _ rfl) ?_);simp only[pts])
     | (at_builtin;go_must (refine(wpList_append_ex (by rfl) _ _ _ _ (by rfl) _ _ (by rfl) (by rfl) (fun a b=>_=a/\w'=b) ⟨_,w',a1.out,rfl,rfl⟩ ?_));rintro _ _ ⟨rfl,rfl⟩))
    go_roundw
    case rel=>exact⟨j+1,by omega,by go_num,⟨by rw[hNX.out.1,hNX.out.2];exact hFN.out.1,hFN.out.2⟩⟩
    case measure=>simp[RowKit.intOf];omega
   have hse:edO t.op=false:=by rcases hrest with h|h<;>exact h.1
   have eo:=opL_begin ht hse
   obtain⟨n,hp,hjn⟩:∃ n:Nat,t.pair=(n:Int)/\j<=n/\(bgO t.op=true->j<n)/\(bgO t.op=false->n=j):=by
    rcases hrest with ⟨_,h2,n,h3,h4,_⟩|⟨_,h2,h3,_⟩
    ·exact⟨n,h3,by omega,fun _=>h4,fun h=>by rw[h2] at h;cases h⟩
    ·exact⟨j,h3,Nat.le_refl _,fun h=>(by rw[h2] at h;cases h),fun _=>rfl⟩
   have cS:=dSince_any t pc cc W2
   rw[sin_doc hZ.out ht] at cS
   rw[hp] at y20 p20
   have d1:decide ((n:Int)<j)=false:=by simp;omega
   have F1:Hid (1=1):=⟨rfl⟩
   have F2:Hid (1=1):=⟨rfl⟩
   have hni:(n:Int)≥j:=by omega
   cases hop:(stA f j).open_ with
   | nil =>
    have hbt:bgO t.op=true:=by
     rcases hrest with h|⟨_,_,_,x,o,h⟩
     ·exact h.2.1
     ·rw[hop] at h;cases h
    rw[cam_top hZ.out ht hse hop] at ec
    rw[if_pos hbt] at eo
    have hoe:opL (stA f j)=[]:=by unfold opL;rw[hop];rfl
    rw[hoe] at M2 eo
    have d2:decide ((j:Int)<n)=true:=by have:=hjn.2.1 hbt;simp;omega
    have d2i:(j:Int)<n:=by have:=hjn.2.1 hbt;omega
    have d2n:j<n:=hjn.2.1 hbt
    have hNX:Hid (camF (f.toks.take (j+1)) []=camF (f.toks.take j) []++[t.since.toNat]/\opL (stA f (j+1))=[]++[j]):=⟨ec,eo⟩
    generalize t.since.toNat=s at cS ec hNX
    generalize camF (f.toks.take j) []=cs at M2 hcl hNX
    obtain⟨po,co,rfl,-⟩:=M2.o.shape
    obtain⟨pv,cv,rfl,-⟩:=M2.c.shape
    subst hcl
    have GO:Hid (∀ w2,Below W2.heap.size W2 w2->∃ pv' cv' w3,Hid (∀ ty,(Builtin.append_ #[38,38] ty #[.slice pv cs.length cv,.slice (some ⟨w2.heap.size,0,none⟩) 1 1]).run Tryz.prog (w2.alloc (.cells #[.int .i64 (s:Int)] 3)) = .ok (.slice pv' (cs.length+1) cv') w3)/\w3.cell? ⟨wr.heap.size,20,none⟩=some (.int .i64 (n:Int))/\∃ po' co' w4,Hid (∀ ty,(Builtin.append_ #[38,38] ty #[.slice po 0 co,.slice (some ⟨w3.heap.size,0,none⟩) 1 1]).run Tryz.prog (w3.alloc (.cells #[.int .i64 (cs.length:Int)] 3)) = .ok (.slice po' 1 co') w4)/\Hid (Cmo w4 W1.heap.size (.slice pv' (cs.length+1) cv') (.slice po' 1 co') (cs++[s]) ([]++[cs.length])/\Below W1.heap.size W1 w4)):=⟨fun w2 hb2=>by
     obtain⟨pv',cv',w3,g1,g2,-,po',co',w4,g4,g5⟩:=cam_go (tb:=wr.heap.size) (M2.below hb2) s cs.length (by omega) (by simp) (Nat.le_trans hw2 hb2.size) (Nat.lt_of_lt_of_le htb hb2.size) vcT
     exact⟨pv',cv',w3,g1,p20 _ (g2.trans (hb2.block _ htb)),po',co',w4,g4,⟨g5.out.1,BW.trans ((hb2.mono hw2).trans g5.out.2)⟩⟩⟩
    clear M2 hol BW hb1 hz1 hw2 htb p20 ec eo hoe hop hbt hrest hjn hp hse ht hM vcT hA
    go_wp2_with (first
      | (guard_target =~ wpList _ _ _ (Oper.mk _ (Op.load 47 _) _ _ _ _::_) _ _;go_must (first|refine wpList_ld 47 (.tmp 18) rfl rfl _ _ rfl l1.out ?_|refine wpList_ld 47 (.tmp 6) rfl rfl _ _ rfl lA.out ?_);simp only[pts])
      | (guard_target =~ wpList _ _ _ (Oper.mk _ (Op.store 47 _ _) _ _ _ _::_) _ _;go_must (refine wpList_st 47 _ _ rfl rfl _ _ rfl rfl (s1.out _ rfl) ?_);simp only[pts])
      | (go_at_call 35;refine cS.mono ?_;rintro _ w2 ⟨rfl,hb2⟩;obtain⟨pv',cv',w3,q1,y20',po',co',w4,q4,q5⟩:=GO.out w2 hb2;clear hb2)
      | (at_builtin;clear F1;go_must (refine(wpList_append_ex (by rfl) _ _ _ _ (by rfl) _ _ (by rfl) (by rfl) (fun a b=>_=a/\w3=b) ⟨_,w3,q1.out,rfl,rfl⟩ ?_));rintro _ _ ⟨rfl,rfl⟩)
      | (at_builtin;clear F2;go_must (refine(wpList_append_ex (by rfl) _ _ _ _ (by rfl) _ _ (by rfl) (by rfl) (fun a b=>_=a/\w4=b) ⟨_,w4,q4.out,rfl,rfl⟩ ?_));rintro _ _ ⟨rfl,rfl⟩))
    go_roundw
    case rel=>exact⟨cs.length+1,by omega,by go_num,⟨by rw[hNX.out.1,hNX.out.2];exact q5.out.1,q5.out.2⟩⟩
    case measure=>simp[RowKit.intOf];omega
   | cons x o =>
    obtain⟨c,hc1,hc2⟩:=cam_at hZ.out ht hop
    rw[if_neg (by rw[hse];decide)] at hc2
    rw[hc2] at ec
    have hoe:opL (stA f j)=(o.map Sc.at_).reverse++[x.at_]:=by unfold opL;rw[hop,List.map_cons,List.reverse_cons]
    rw[hoe] at M2 eo hol
    have hxj:=(List.getElem?_eq_some_iff.1 hc1).1
    have hNX:Hid (camF (f.toks.take (j+1)) []=camF (f.toks.take j) []++[max t.since.toNat c]/\opL (stA f (j+1))=if bgO t.op then (o.map Sc.at_).reverse++[x.at_]++[j] else (o.map Sc.at_).reverse++[x.at_]):=⟨ec,eo⟩
    clear hoe hop hc2 eo ec hrest
    generalize t.since.toNat=s at cS hNX
    obtain⟨mx,hmx⟩:∃ mx,max s c=mx:=⟨_,rfl⟩
    rw[hmx] at hNX
    have hmi:(if s<c then (c:Int) else (s:Int))=(mx:Int):=by rw[<- hmx];split<;>omega
    clear hmx
    generalize camF (f.toks.take j) []=cs at M2 hcl hNX hc1 hxj
    generalize (o.map Sc.at_).reverse=r at M2 hol hNX
    generalize x.at_=xa at M2 hol hc1 hxj hNX
    obtain⟨go,co,rfl,hco⟩:∃ go co,u4 = .slice (some ⟨go,0,none⟩) (r.length+1) co/\r.length+1<=co:=by
     obtain⟨po,co,e,-⟩:=M2.o.shape
     rw[e] at M2
     obtain⟨_,e2,e3,g,rfl⟩:=M2.o.pop
     exact⟨g,co,by rw[e,e2],e3⟩
    obtain⟨pv,cv,rfl,-⟩:=M2.c.shape
    obtain⟨gc,rfl,-,-,-⟩:=M2.c.cellP hc1
    have hro:(r++[xa])[r.length]?=some xa:=by simp
    have hol2:(r++[xa]).length=r.length+1:=by simp
    rw[hol2] at hol
    subst hcl
    have hxc:(xa:Int)<cs.length:=by omega
    have hrl:r.length+1<=733007751850:=by omega
    have GO:Hid (∀ w2,Below W2.heap.size W2 w2->w2.cell? ⟨go,r.length,none⟩=some (.int .i64 (xa:Int))/\w2.cell? ⟨gc,xa,none⟩=some (.int .i64 (c:Int))/\∃ pv' cv' w3,Hid (∀ ty,(Builtin.append_ #[38,38] ty #[.slice (some ⟨gc,0,none⟩) cs.length cv,.slice (some ⟨w2.heap.size,0,none⟩) 1 1]).run Tryz.prog (w2.alloc (.cells #[.int .i64 (mx:Int)] 3)) = .ok (.slice pv' (cs.length+1) cv') w3)/\w3.cell? ⟨wr.heap.size,20,none⟩=some (.int .i64 (n:Int))/\Hid (Cmo w3 W1.heap.size (.slice pv' (cs.length+1) cv') (.slice (some ⟨go,0,none⟩) (r.length+1) co) (cs++[mx]) (r++[xa])/\Below W1.heap.size W1 w3)/\∃ po' co' w4,Hid (∀ ty,(Builtin.append_ #[38,38] ty #[.slice (some ⟨go,0,none⟩) (r.length+1) co,.slice (some ⟨w3.heap.size,0,none⟩) 1 1]).run Tryz.prog (w3.alloc (.cells #[.int .i64 (cs.length:Int)] 3)) = .ok (.slice po' (r.length+1+1) co') w4)/\Hid (Cmo w4 W1.heap.size (.slice pv' (cs.length+1) cv') (.slice po' (r.length+1+1) co') (cs++[mx]) (r++[xa]++[cs.length])/\Below W1.heap.size W1 w4)):=⟨fun w2 hb2=>by
     have M3:=M2.below hb2
     obtain⟨pv',cv',w3,g1,g2,g3,po',co',w4,g4,g5⟩:=cam_go (tb:=wr.heap.size) M3 mx cs.length (by omega) (by omega) (Nat.le_trans hw2 hb2.size) (Nat.lt_of_lt_of_le htb hb2.size) vcT
     rw[hol2] at g4 g5
     obtain⟨_,e1,-,-,k2⟩:=M3.o.cellP hro
     obtain⟨_,e3,-,-,k3⟩:=M3.c.cellP hc1
     cases e1
     cases e3
     have hBB:=BW.trans (hb2.mono hw2)
     exact⟨k2,k3,pv',cv',w3,g1,p20 _ (g2.trans (hb2.block _ htb)),⟨g3.out.1,hBB.trans g3.out.2⟩,po',co',w4,g4,⟨g5.out.1,hBB.trans g5.out.2⟩⟩⟩
    clear M2 hol BW hb1 hz1 hw2 htb p20 hp hse ht hM vcT hA hc1 hro hol2 hxj hco
    cases hbg:bgO t.op with
    | true =>
     have d2n:cs.length<n:=hjn.2.1 hbg
     have d2:decide ((cs.length:Int)<n)=true:=by simp;omega
     have d2i:(cs.length:Int)<n:=by omega
     rw[if_pos hbg] at hNX
     clear hjn hbg
     go_wp2_with (first
       | (guard_target =~ wpList _ _ _ (Oper.mk _ (Op.load 47 _) _ _ _ _::_) _ _;go_must (first|refine wpList_ld 47 (.tmp 18) rfl rfl _ _ rfl l1.out ?_|refine wpList_ld 47 (.tmp 6) rfl rfl _ _ rfl lA.out ?_);simp only[pts])
       | (guard_target =~ wpList _ _ _ (Oper.mk _ (Op.store 47 _ _) _ _ _ _::_) _ _;go_must (refine wpList_st 47 _ _ rfl rfl _ _ rfl rfl (s1.out _ rfl) ?_);simp only[pts])
       | (go_at_call 35;refine cS.mono ?_;rintro _ w2 ⟨rfl,hb2⟩;obtain⟨k2,k3,pv',cv',w3,q1,y20',q3,po',co',w4,q4,q5⟩:=GO.out w2 hb2;clear hb2)
       | (at_builtin;clear F1;go_must (refine(wpList_append_ex (by rfl) _ _ _ _ (by rfl) _ _ (by rfl) (by rfl) (fun a b=>_=a/\w3=b) ⟨_,w3,q1.out,rfl,rfl⟩ ?_));rintro _ _ ⟨rfl,rfl⟩)
       | (at_builtin;clear F2;go_must (refine(wpList_append_ex (by rfl) _ _ _ _ (by rfl) _ _ (by rfl) (by rfl) (fun a b=>_=a/\w4=b) ⟨_,w4,q4.out,rfl,rfl⟩ ?_));rintro _ _ ⟨rfl,rfl⟩))
     go_roundw
     case rel=>exact⟨cs.length+1,by omega,by go_num,⟨by rw[hNX.out.1,hNX.out.2];exact q5.out.1,q5.out.2⟩⟩
     case measure=>simp[RowKit.intOf];omega
    | false =>
     obtain rfl:n=cs.length:=hjn.2.2 hbg
     have d2:decide ((cs.length:Int)<cs.length)=false:=by simp
     rw[if_neg (by rw[hbg];decide)] at hNX
     clear hjn hbg
     go_wp2_with (first
       | (guard_target =~ wpList _ _ _ (Oper.mk _ (Op.load 47 _) _ _ _ _::_) _ _;go_must (first|refine wpList_ld 47 (.tmp 18) rfl rfl _ _ rfl l1.out ?_|refine wpList_ld 47 (.tmp 6) rfl rfl _ _ rfl lA.out ?_);simp only[pts])
       | (guard_target =~ wpList _ _ _ (Oper.mk _ (Op.store 47 _ _) _ _ _ _::_) _ _;go_must (refine wpList_st 47 _ _ rfl rfl _ _ rfl rfl (s1.out _ rfl) ?_);simp only[pts])
       | (go_at_call 35;refine cS.mono ?_;rintro _ w2 ⟨rfl,hb2⟩;obtain⟨k2,k3,pv',cv',w3,q1,y20',q3,po',co',w4,q4,q5⟩:=GO.out w2 hb2;clear hb2)
       | (at_builtin;clear F1;go_must (refine(wpList_append_ex (by rfl) _ _ _ _ (by rfl) _ _ (by rfl) (by rfl) (fun a b=>_=a/\w3=b) ⟨_,w3,q1.out,rfl,rfl⟩ ?_));rintro _ _ ⟨rfl,rfl⟩)
       | (at_builtin;clear F2;go_must (refine(wpList_append_ex (by rfl) _ _ _ _ (by rfl) _ _ (by rfl) (by rfl) (fun a b=>_=a/\w4=b) ⟨_,w4,q4.out,rfl,rfl⟩ ?_));rintro _ _ ⟨rfl,rfl⟩))
     go_roundw
     case rel=>exact⟨cs.length+1,by omega,by go_num,⟨by rw[hNX.out.1,hNX.out.2];exact q3.out.1,q3.out.2⟩⟩
     case measure=>simp[RowKit.intOf];omega
  ·obtain rfl:j=f.toks.length:=by omega
   have d3:decide ((f.toks.length:Int)<f.toks.length)=false:=by simp
   have hE:=hM.out.c
   rw[List.take_length] at hE
   have h3':Hid _:=⟨hE⟩
   obtain⟨pv,cv,rfl,-⟩:=hE.shape
   clear hE hlt hj
   go_wp2_with fail
   go_ret
   exact⟨_,rfl,h3'.out.low (by have:=hS1.out;omega),hBW.out.trans (hB.out.mono hBW.out.size)⟩
theorem dBlock_any {f:Fm} {b n:Nat} {t:Tk} {ks:List Nat} (hg:Bgn f.toks b n t ks) (pp:Option Addr) (cp:Nat) (w:World) (hr:TkRow w pp w.heap.size f.toks) (hlm:f.toks.length*192<=140737488351232) (vc:Value) (B:Nat) (hC:NRow w B vc (camZ f)) (v:Int) :
  Calls Tryz.prog 21 #[fmV f pp cp,vc,.int .i64 (b:Int),.int .i64 v] w fun e w'=>e = .returned (.int .i64 (blkZ f.toks (camZ f) v b t))/\Below w.heap.size w w':=by
 obtain⟨pv,cv,rfl,-⟩:=hC.shape
 have hcl:=camZ_length f
 have hkids:=hg.kids
 obtain⟨Z,hZ⟩:∃ Z,blkZ f.toks (camZ f) v b t=Z:=⟨_,rfl⟩
 have hZ':Hid ((fstB f.toks (camZ f) v ks).getD t.blk=Z):=⟨by rw[<- hZ];unfold blkZ;rw[hkids]⟩
 rw[hZ]
 have hb:=bel1 w (fmO f pp cp)
 have H1:=heap_al w (fmO f pp cp)
 have hs1:(w.alloc (fmO f pp cp)).heap.size=w.heap.size+1:=World.size_alloc _ _
 generalize hW:w.alloc (fmO f pp cp)=W1 at hb H1 hs1
 simp only[fmO] at hW
 obtain⟨gf,ofs,pc,cc,rfl,hgf,hTb,-,-⟩:=hr.c b t hg.et
 have bl:=hg.nl
 have bb:=hg.bn
 have hen:=hg.en
 have hnl:Hid (n<f.toks.length/\b<n/\f.toks.length<=733007751850):=⟨by omega,by omega,by omega⟩
 have hKn:Hid (∀ k∈ks,k<n):=⟨fun k hk=>(hg.kn k hk).2⟩
 have hUp:Hid _:=⟨hg.up⟩
 have hrr:Hid _:=⟨hr⟩
 have hTB:Hid (TkC w gf (ofs+b*21) t pc cc):=⟨hTb⟩
 have hCC:Hid _:=⟨hC.below hb⟩
 have hCh:Hid (Chn f.toks (b+1) ks n):=⟨hg.ch⟩
 have hcl':Hid _:=⟨hcl⟩
 have hF:Hid _:=⟨H1⟩
 have hS1:Hid _:=⟨hs1⟩
 have hBW:Hid _:=⟨hb⟩
 have hbi:(b:Int)<f.toks.length:=by omega
 have hbb1:(b:Int)<1000000000000:=by omega
 clear hZ hkids hTb hr hC hg hlm hcl bl bb hb H1 hs1
 go_enter Tryz.func21,Tryz.ntmps21
 go_wp2_with fail
 go_loopw [9] (fun q wr=>∃ (i d:Nat),q = .int .i64 (i:Int)/\i<=n/\Hid (Chn f.toks i (ks.drop d) n/\fstB f.toks (camZ f) v ks=fstB f.toks (camZ f) v (ks.drop d))/\Hid (Below W1.heap.size W1 wr)) (fun q _=>n-(RowKit.intOf q).toNat)
 case atStart=>exact⟨b+1,0,by go_num,by have:=hnl.out;omega,⟨hCh.out,rfl⟩,⟨Below.refl _ _⟩⟩
 case round =>
  obtain⟨i,d,rfl,hin,hI,hB⟩:=hrel
  obtain⟨hch,hfs⟩:=hI.out
  have hBw:Hid (Below w.heap.size w wr):=⟨hBW.out.trans (hB.out.mono hBW.out.size)⟩
  have x12:wr.cell? ⟨w.heap.size,12,none⟩=some (.slice (some ⟨gf,ofs,none⟩) f.toks.length cp):=cell_at ((hB.out.block _ (by have:=hS1.out;omega)).trans hF.out) 12
  have b14:=(hTB.out.below hgf hBw.out).c14
  have b20:=(hTB.out.below hgf hBw.out).c20
  rw[hen] at b20
  clear hI
  by_cases hlt:i<n
  ·obtain⟨r,hdr⟩:∃ r,ks.drop d=i::r:=by
    cases hd:ks.drop d with
    | nil=>rw[hd] at hch;have e:i=n:=hch;omega
    | cons k r=>rw[hd] at hch;obtain⟨e,-⟩:=hch;exact⟨r,by rw[e]⟩
   rw[hdr] at hch hfs
   obtain⟨-,u,m,hu,hm,hch2⟩:=hch
   obtain⟨gf',ofs',pc',cc',e,hgf',hTi,-,-⟩:=hrr.out.c i u hu
   cases e
   have l1:Hid _:=⟨(hTi.below hgf hBw.out).load⟩
   obtain⟨W2,s1,hA,hb1,hz1⟩:=ld_new wr u pc' cc'
   replace s1:=Hid.mk s1
   have a0:W2.cell? ⟨wr.heap.size,0,none⟩=some (.int .i64 u.op):=hA.c0
   have a3:W2.cell? ⟨wr.heap.size,3,none⟩=some (.int .i64 u.off):=hA.c3
   have a4:W2.cell? ⟨wr.heap.size,4,none⟩=some (.int .i64 u.siz):=hA.c4
   have a20:W2.cell? ⟨wr.heap.size,20,none⟩=some (.int .i64 u.pair):=hA.c20
   rw[hm] at a20
   have hB2:Hid (Below W1.heap.size W1 W2):=⟨hB.out.trans (hb1.mono hB.out.size)⟩
   have hBf:Hid (Below w.heap.size w W2):=⟨hBW.out.trans (hB2.out.mono hBW.out.size)⟩
   have hii:(i:Int)<f.toks.length:=by have:=hnl.out;omega
   have hin1:(i:Int)<n:=by omega
   obtain⟨c,hc⟩:∃ c,(camZ f)[i]?=some c:=⟨(camZ f)[i]'(by have:=hcl'.out;omega),List.getElem?_eq_getElem _⟩
   obtain⟨gc,rfl,-,-,hcc⟩:=(hCC.out.below (hB2.out)).cellP hc
   have hcl2:(i:Int)<(camZ f).length:=by have:=hcl'.out;omega
   have hmn:m+1<=n/\i<=m:=by
    cases r with
    | nil=>have e:m+1=n:=hch2;omega
    | cons k r =>
     obtain⟨e,-⟩:=hch2
     have hk:k∈ks:=List.mem_of_mem_drop (i:=d) (by rw[hdr];simp)
     have:=hKn.out k hk
     have h2:=hUp.out.sublist (List.drop_sublist d ks)
     rw[hdr] at h2
     have:=(List.pairwise_cons.1 h2).1 k (List.mem_cons_self ..)
     omega
   have hnew:newB' f.toks (camZ f) v i=(decide (u.op=2)&&(!decide (u.siz=0)&&decide (v<(c:Int)))):=by
    unfold newB'
    rw[hu]
    simp only[List.getD_eq_getElem?_getD,hc,Option.getD_some]
   rw[fstB,hnew] at hfs
   have hmb:(m:Int)<1000000000000:=by have:=hnl.out;omega
   have hNo:(decide (u.op=2)&&(!decide (u.siz=0)&&decide (v<(c:Int))))=false->Hid (Chn f.toks (m+1) (ks.drop (d+1)) n/\fstB f.toks (camZ f) v ks=fstB f.toks (camZ f) v (ks.drop (d+1))):=fun h=>⟨by
    have e:ks.drop (d+1)=r:=by rw[<- List.tail_drop,hdr];rfl
    rw[e]
    refine⟨hch2,?_⟩
    rw[hfs,h]
    rfl⟩
   have hYes:(decide (u.op=2)&&(!decide (u.siz=0)&&decide (v<(c:Int))))=true->Hid (u.off=Z):=fun h=>⟨by
    rw[<- hZ'.out,hfs,h]
    unfold offAt
    rw[hu]
    rfl⟩
   clear hfs hch2 hnew hdr hm hu hTi hA hb1 hz1 hc
   by_cases h2:u.op=2
   ·have d2:(u.op==2)=true:=beq_iff_eq.2 h2
    rw[decide_eq_true h2] at hNo hYes
    by_cases hs0:u.siz=0
    ·have d4:(u.siz != 0)=false:=by simp[hs0]
     rw[decide_eq_true hs0] at hNo
     have hN:=hNo rfl
     clear hNo hYes h2 hs0
     go_wp2_with (first
      | (guard_target =~ wpList _ _ _ (Oper.mk _ (Op.load 47 _) _ _ _ _::_) _ _;go_must (refine wpList_ld 47 _ rfl rfl _ _ rfl l1.out ?_);simp only[pts])
      | (guard_target =~ wpList _ _ _ (Oper.mk _ (Op.store 47 _ _) _ _ _ _::_) _ _;go_must (refine wpList_st 47 _ _ rfl rfl _ _ rfl rfl (s1.out _ rfl) ?_);simp only[pts]))
     go_roundw
     case rel=>exact⟨m+1,d+1,by go_num,hmn.1,hN,hB2⟩
     case measure=>simp[RowKit.intOf];omega
    ·have d4:(u.siz != 0)=true:=by simp[hs0]
     rw[decide_eq_false hs0] at hNo hYes
     by_cases hcv:v<(c:Int)
     ·have d5:decide (v<(c:Int))=true:=by simp[hcv]
      rw[d5] at hYes
      have hN:=hYes rfl
      clear hNo hYes h2 hs0
      go_wp2_with (first
       | (guard_target =~ wpList _ _ _ (Oper.mk _ (Op.load 47 _) _ _ _ _::_) _ _;go_must (refine wpList_ld 47 _ rfl rfl _ _ rfl l1.out ?_);simp only[pts])
       | (guard_target =~ wpList _ _ _ (Oper.mk _ (Op.store 47 _ _) _ _ _ _::_) _ _;go_must (refine wpList_st 47 _ _ rfl rfl _ _ rfl rfl (s1.out _ rfl) ?_);simp only[pts]))
      go_ret
      rw[hN.out]
      exact⟨rfl,hBf.out⟩
     ·have d5:decide (v<(c:Int))=false:=by simp[hcv]
      rw[d5] at hNo
      have hN:=hNo rfl
      clear hNo hYes h2 hs0
      go_wp2_with (first
       | (guard_target =~ wpList _ _ _ (Oper.mk _ (Op.load 47 _) _ _ _ _::_) _ _;go_must (refine wpList_ld 47 _ rfl rfl _ _ rfl l1.out ?_);simp only[pts])
       | (guard_target =~ wpList _ _ _ (Oper.mk _ (Op.store 47 _ _) _ _ _ _::_) _ _;go_must (refine wpList_st 47 _ _ rfl rfl _ _ rfl rfl (s1.out _ rfl) ?_);simp only[pts]))
      go_roundw
      case rel=>exact⟨m+1,d+1,by go_num,hmn.1,hN,hB2⟩
      case measure=>simp[RowKit.intOf];omega
   ·have d2:(u.op==2)=false:=by simp[h2]
    rw[decide_eq_false h2] at hNo
    have hN:=hNo rfl
    clear hNo hYes h2
    go_wp2_with (first
     | (guard_target =~ wpList _ _ _ (Oper.mk _ (Op.load 47 _) _ _ _ _::_) _ _;go_must (refine wpList_ld 47 _ rfl rfl _ _ rfl l1.out ?_);simp only[pts])
     | (guard_target =~ wpList _ _ _ (Oper.mk _ (Op.store 47 _ _) _ _ _ _::_) _ _;go_must (refine wpList_st 47 _ _ rfl rfl _ _ rfl rfl (s1.out _ rfl) ?_);simp only[pts]))
    go_roundw
    case rel=>exact⟨m+1,d+1,by go_num,hmn.1,hN,hB2⟩
    case measure=>simp[RowKit.intOf];omega
  ·obtain rfl:i=n:=by omega
   have hd0:ks.drop d=[]:=by
    cases hd:ks.drop d with
    | nil=>rfl
    | cons k r =>
     rw[hd] at hch
     obtain⟨e,-⟩:=hch
     have:=hKn.out k (List.mem_of_mem_drop (i:=d) (by rw[hd];simp))
     omega
   rw[hd0] at hfs
   have hN:Hid (t.blk=Z):=⟨by rw[<- hZ'.out,hfs];rfl⟩
   have d3:decide ((i:Int)<i)=false:=by simp
   clear hfs hch hd0 hlt hin
   go_wp2_with fail
   go_ret
   rw[hN.out]
   exact⟨rfl,hBw.out⟩
theorem end_op {f:Fm} (hz:chkZ f=none) {b n:Nat} {t:Tk} {ks:List Nat} (hg:Bgn f.toks b n t ks) (ho:t.op=0\/t.op=4):∃ u,f.toks[n]?=some u/\u.op=t.op+1:=by
 have hb:bgO t.op=true:=by rcases ho with e|e<;>rw[e]<;>rfl
 obtain⟨hok,H⟩:=val_ok hz hg.et
 have hp:pairB f.toks b t=true:=by
  revert hok H
  generalize stA f b=s
  intro hok H
  obtain⟨o,ids⟩:=s
  cases o with
  | nil=>exact(okZ_nil hok).2.2.2.2.1
  | cons x o =>
   have h:inOk f (x::o) ids b x t=true:=hok
   have he:edO t.op=false:=bgO_end hb
   exact(inOk_in h he).2.2.2.1 hb
 obtain⟨m,u,h1,_,_,h2,h3,_⟩:=pairB_get hp
 have:m=n:=by have:=hg.en;omega
 subst this
 exact⟨u,h2,h3⟩
theorem blockAt_any {f:Fm} (hz:chkZ f=none) {b n:Nat} {t:Tk} {ks:List Nat} (hg:Bgn f.toks b n t ks) (hk:Took f b t ks) (ho:t.op=0\/t.op=4) (pp:Option Addr) (cp:Nat) (w:World) (H:Nat) (hr:TkRow w pp H f.toks) (hlm:f.toks.length*192<=140737488351232) (vc:Value) (B:Nat) (hC:NRow w B vc (camZ f)) (v:Int) :
  Calls Tryz.prog 29 #[.slice pp f.toks.length cp,vc,.int .i64 (b:Int),.int .i64 v] w fun e w'=>e = .returned (.int .i64 (blkZ f.toks (camZ f) v b t))/\w'=w:=by
 obtain⟨pv,cv,rfl,-⟩:=hC.shape
 have hcl:=camZ_length f
 have hkids:=hg.kids
 obtain⟨Z,hZ⟩:∃ Z,blkZ f.toks (camZ f) v b t=Z:=⟨_,rfl⟩
 have hZ':Hid ((fstB f.toks (camZ f) v ks).getD t.blk=Z):=⟨by rw[<- hZ];unfold blkZ;rw[hkids]⟩
 rw[hZ]
 obtain⟨ue,hue,hueo⟩:=end_op hz hg ho
 obtain⟨gf,ofs,pc,cc,rfl,hgf,hTb,-,-⟩:=hr.c b t hg.et
 have bl:=hg.nl
 have bb:=hg.bn
 have hnl:Hid (n<f.toks.length/\b<n/\f.toks.length<=733007751850):=⟨by omega,by omega,by omega⟩
 have q14:=hTb.c14
 have hkn:Hid (∀ k∈ks,k<f.toks.length):=⟨fun k hk=>by have:=(hg.kn k hk).2;omega⟩
 have hKn:Hid (∀ k∈ks,k<n):=⟨fun k hk=>(hg.kn k hk).2⟩
 have hVZ:Hid _:=⟨hz⟩
 have hrr:Hid _:=⟨hr⟩
 have hCC:Hid _:=⟨hC⟩
 have hTT:Hid _:=⟨hk⟩
 have hoo:Hid _:=⟨ho⟩
 have hUE:Hid (∃ u,f.toks[n]?=some u/\u.op≠2):=⟨ue,hue,by rcases ho with e|e<;>rw[hueo,e]<;>decide⟩
 have hCh:Hid (Chn f.toks (b+1) ks n):=⟨hg.ch⟩
 have hcl':Hid _:=⟨hcl⟩
 have hbi:(b:Int)<f.toks.length:=by omega
 have hbb1:(b:Int)<1000000000000:=by omega
 clear hZ hkids hue hueo hTb hr hC hk ho hg hz hlm hcl bl bb
 go_enter Tryz.func29,Tryz.ntmps29
 go_wp2_with fail
 go_loopw [9] (fun q wr=>∃ (i d:Nat),q = .int .i64 (i:Int)/\i<=n/\Hid (Chn f.toks i (ks.drop d) n/\fstB f.toks (camZ f) v ks=fstB f.toks (camZ f) v (ks.drop d))/\wr=w) (fun q _=>n+1-(RowKit.intOf q).toNat)
 case atStart=>exact⟨b+1,0,by go_num,by have:=hnl.out;omega,⟨hCh.out,rfl⟩,rfl⟩
 case round =>
  obtain⟨i,d,rfl,hin,hI,rfl⟩:=hrel
  obtain⟨hch,hfs⟩:=hI.out
  have hil:i<f.toks.length:=by have:=hnl.out;omega
  obtain⟨u,hu⟩:∃ u,f.toks[i]?=some u:=⟨f.toks[i],List.getElem?_eq_getElem hil⟩
  obtain⟨gf',ofs',pc',cc',e,hgf',hTi,-,-⟩:=hrr.out.c i u hu
  cases e
  have a0:=hTi.c0
  have a3:=hTi.c3
  have a4:=hTi.c4
  have a20:=hTi.c20
  have hii:(i:Int)<f.toks.length:=by omega
  have hlb:(i:Int)<1000000000000:=by have:=hnl.out;omega
  clear hTi hI
  by_cases hu2:u.op=2
  ·have d2:(u.op==2)=true:=beq_iff_eq.2 hu2
   obtain⟨r,hdr⟩:∃ r,ks.drop d=i::r:=by
    cases hd:ks.drop d with
    | nil =>
     rw[hd] at hch
     have e:i=n:=hch
     obtain⟨u',h1,h2⟩:=hUE.out
     rw[<- e,hu] at h1
     cases h1
     exact absurd hu2 h2
    | cons k r =>
     rw[hd] at hch
     obtain⟨e,-⟩:=hch
     exact⟨r,by rw[e]⟩
   rw[hdr] at hch hfs
   obtain⟨-,u',m,hu',hm,hch2⟩:=hch
   rw[hu] at hu'
   cases hu'
   obtain⟨c,hc⟩:∃ c,(camZ f)[i]?=some c:=⟨(camZ f)[i]'(by have:=hcl'.out;omega),List.getElem?_eq_getElem _⟩
   obtain⟨gc,rfl,-,-,hcc⟩:=hCC.out.cellP hc
   have hcl2:(i:Int)<(camZ f).length:=by have:=hcl'.out;omega
   have hmn:m+1<=n:=by
    cases r with
    | nil=>exact Nat.le_of_eq hch2
    | cons k r =>
     obtain⟨e,-⟩:=hch2
     have hk:k∈ks:=List.mem_of_mem_drop (i:=d) (by rw[hdr];simp)
     have:=hKn.out k hk
     omega
   have hnew:newB' f.toks (camZ f) v i=(!decide (u.siz=0)&&decide (v<(c:Int))):=by
    unfold newB'
    rw[hu]
    simp only[hu2,decide_true,Bool.true_and,List.getD_eq_getElem?_getD,hc,Option.getD_some]
   rw[fstB,hnew] at hfs
   have hmi:i<=m:=by
    rcases val_tok hVZ.out hu with ⟨e,-⟩|⟨-,-,m',e,e2,-⟩|⟨-,e,-⟩
    ·rw[hu2] at e;cases e
    ·omega
    ·rw[hu2] at e;cases e
   by_cases hs0:u.siz=0
   ·have d4:(u.siz != 0)=false:=by simp[hs0]
    have hN:Hid (Chn f.toks (m+1) (ks.drop (d+1)) n/\fstB f.toks (camZ f) v ks=fstB f.toks (camZ f) v (ks.drop (d+1))):=⟨by
     have e:ks.drop (d+1)=r:=by rw[<- List.tail_drop,hdr];rfl
     rw[e]
     refine⟨hch2,?_⟩
     rw[hfs,hs0]
     rfl⟩
    rw[hm] at a20
    have hmb:(m:Int)<1000000000000:=by have:=hnl.out;omega
    clear hfs hch2 hs0 hu2 hnew hdr hm a3
    go_wp2_with fail
    go_roundw
    case rel=>exact⟨m+1,d+1,by go_num,hmn,hN,trivial⟩
    case measure=>simp[RowKit.intOf];omega
   ·have d4:(u.siz != 0)=true:=by simp[hs0]
    by_cases hcv:v<(c:Int)
    ·have d5:decide (v<(c:Int))=true:=by simp[hcv]
     have hN:Hid (u.off=Z):=⟨by
      rw[<- hZ'.out,hfs,decide_eq_false hs0,d5]
      unfold offAt
      rw[hu]
      rfl⟩
     clear hfs hch2 hs0 hu2 hnew hdr hm hcv
     go_wp2_with fail
     go_ret
     rw[hN.out]
     exact⟨rfl,rfl⟩
    ·have d5:decide (v<(c:Int))=false:=by simp[hcv]
     have hN:Hid (Chn f.toks (m+1) (ks.drop (d+1)) n/\fstB f.toks (camZ f) v ks=fstB f.toks (camZ f) v (ks.drop (d+1))):=⟨by
      have e:ks.drop (d+1)=r:=by rw[<- List.tail_drop,hdr];rfl
      rw[e]
      refine⟨hch2,?_⟩
      rw[hfs,d5,Bool.and_false]
      rfl⟩
     rw[hm] at a20
     have hmb:(m:Int)<1000000000000:=by have:=hnl.out;omega
     clear hfs hch2 hs0 hu2 hnew hdr hm hcv a3
     go_wp2_with fail
     go_roundw
     case rel=>exact⟨m+1,d+1,by go_num,hmn,hN,trivial⟩
     case measure=>simp[RowKit.intOf];omega
  ·have d2:(u.op==2)=false:=beqN hu2
   have hN:Hid (t.blk=Z):=⟨by
    rw[<- hZ'.out,hfs]
    cases hd:ks.drop d with
    | nil=>rfl
    | cons k r =>
     rw[hd] at hch
     obtain⟨e,-⟩:=hch
     have hkd:ks[d]?=some k:=by
      have:=congrArg (fun l=>l[0]?) hd
      simpa using this
     have:=fst_none (C:=camZ f) (v:=v) hTT.out hoo.out hkn.out hkd (by rw[<- e];exact hu) hu2
     rw[<- hd,this]
     rfl⟩
   clear hfs hch hu2 a3 a4 a20
   go_wp2_with fail
   go_ret
   rw[hN.out]
   exact⟨rfl,rfl⟩
end Go.Proofs.YtkcjdncchoohoaaGreatDoor

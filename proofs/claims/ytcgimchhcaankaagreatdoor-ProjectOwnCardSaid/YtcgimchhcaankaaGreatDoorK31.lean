import Derived.Test.YtcgimchhcaankaaGreatDoorK30
namespace Go.Proofs.YtcgimchhcaankaaGreatDoor
set_option maxRecDepth 1000000
set_option maxHeartbeats 16000000
open Go.ChangeShapes Go.WideShapes Go.ChangeAt Go.RowKit Go.Shelf Go.Maps
theorem M1.start {w:World} {a:Fm} {pa:Option Addr} {ca B E m:Nat} {ks:List Ktp} (c:M0 w a pa ca B E m ks):M1 w a pa ca B E m ks 0 0 ks (.slice none 0 0) (((w.alloc (fmO a pa ca)).alloc zMk).alloc (.cells #[.slice pa a.toks.length ca,.slice none 0 0,.slice none 0 0,.slice none 0 0,.int .i64 (m:Int)] 50)):=by
 have b1:=two_b w (fmO a pa ca) zMk
 have b2:=bel1 ((w.alloc (fmO a pa ca)).alloc zMk) (.cells #[.slice pa a.toks.length ca,.slice none 0 0,.slice none 0 0,.slice none 0 0,.int .i64 (m:Int)] 50)
 have hs:((w.alloc (fmO a pa ca)).alloc zMk).heap.size=w.heap.size+2:=by simp
 have h1:=two_1 w (fmO a pa ca) zMk
 have h2:=two_2 w (fmO a pa ca) zMk
 have h3:=heap_al ((w.alloc (fmO a pa ca)).alloc zMk) (.cells #[.slice pa a.toks.length ca,.slice none 0 0,.slice none 0 0,.slice none 0 0,.int .i64 (m:Int)] 50)
 rw[hs] at h3
 have hb:=b1.trans (b2.mono b1.size)
 refine⟨(b2.block _ (by omega)).trans h1,(b2.block _ (by omega)).trans h2,h3,c.kt.below hb,Mrk.start m ks,World.ownsRow_nil _ _ _ 1,⟨hb.mono c.bW,fun j _ hj=>hb.block j hj⟩⟩
def M1y (w:World) (a:Fm) (pa:Option Addr) (ca B E m:Nat) (ks:List Ktp) (j k:Nat) (ks2:List Ktp) (vC:Value) (y:Ktp) (W:World):Prop:=∃ y2,M1 w a pa ca B E m ks j k ks2 vC W/\ks2[j]?=some y2/\y2.p=y.p/\y2.c=y.c/\y2.t.cst.length=y.t.cst.length
theorem M1y.put {w:World} {a:Fm} {pa:Option Addr} {ca B E m:Nat} {ks:List Ktp} {j k:Nat} {ks2:List Ktp} {vC:Value} {y:Ktp} {W:World} (h:M1y w a pa ca B E m ks j k ks2 vC y W) (c:M0 w a pa ca B E m ks) (hk:k<y.t.cst.length):∃ g,y.p=some ⟨g,0,none⟩/\(∃ u:Int,W.cell? ⟨g,k,none⟩=some (.int .u64 u))/\W.frozen? ⟨g,k,none⟩=false/\∃ ks3,M1y w a pa ca B E m ks j (k+1) ks3 vC y (W.setCell ⟨g,k,none⟩ (.int .u64 ((1000*m+j:Nat):Int))):=by
 obtain⟨y2,h1,h2,h3,h4,h5⟩:=h
 obtain⟨g,e,hu,hf,hN⟩:=h1.put c h2 (by rw[h5];exact hk)
 refine⟨g,by rw[<- h3];exact e,hu,hf,ks2.set j ⟨{ y2.t with cst:=y2.t.cst.set k ((1000*m+j:Nat):Int) },y2.p,y2.c⟩,⟨{ y2.t with cst:=y2.t.cst.set k ((1000*m+j:Nat):Int) },y2.p,y2.c⟩,hN,by rw[List.getElem?_set,if_pos rfl,if_pos (List.getElem?_eq_some_iff.1 h2).1],h3,h4,?_⟩
 show (y2.t.cst.set k _).length=_
 rw[List.length_set]
 exact h5
theorem M1y.push {w:World} {a:Fm} {pa:Option Addr} {ca B E m:Nat} {ks:List Ktp} {j:Nat} {ks2:List Ktp} {vC:Value} {y:Ktp} {W:World} (h:M1y w a pa ca B E m ks j y.t.cst.length ks2 vC y W) (c:M0 w a pa ca B E m ks):W.cell? ⟨w.heap.size+1+1,2,none⟩=some vC/\∃ pv cv w',(∀ ty,(Builtin.append_ #[48,48] ty #[vC,.slice (some ⟨W.heap.size,0,none⟩) 1 1]).run Tryz.prog (W.alloc (.cells #[.slice y.p y.t.cst.length y.c] 38)) = .ok (.slice pv (j+1) cv) w')/\w'.cell? ⟨w.heap.size+1+1,2,none⟩=some vC/\w'.frozen? ⟨w.heap.size+1+1,2,none⟩=false/\M1 w a pa ca B E m ks (j+1) 0 ks2 (.slice pv (j+1) cv) (w'.setCell ⟨w.heap.size+1+1,2,none⟩ (.slice pv (j+1) cv)):=by
 obtain⟨y2,h1,h2,h3,h4,h5⟩:=h
 rw[<- h5] at h1
 have hp:=M1.push c h1 h2
 rw[h3,h4,h5] at hp
 exact⟨cell_at h1.xb 2,hp⟩
theorem marked_any {w:World} {a:Fm} {pa:Option Addr} {ca B E m:Nat} {ks:List Ktp} (c:M0 w a pa ca B E m ks) :
  Calls Tryz.prog 10 #[fmV a pa ca,.int .i64 (m:Int)] w fun e w'=>∃ x:Mkv,e = .returned x.v/\MkOk w' (fun g=>(B<=g/\g<E)\/(w.heap.size<=g/\g<w'.heap.size)) x/\Fr B E w w'/\x.n=ks.length/\x.m=m:=by
 obtain⟨ga,rfl⟩:∃ ga,pa=some ⟨ga,0,none⟩:=by
  obtain⟨g,_,e⟩:=own_slic c.kt.row c.ne
  injection e with e _ _
  exact⟨g,e⟩
 have H0:Hid _:=⟨M1.start c⟩
 have s0:Hid _:=⟨fun z hz=>st_newM ((w.alloc (fmO a (some ⟨ga,0,none⟩) ca)).alloc zMk) z hz (some ⟨ga,0,none⟩) none none none a.toks.length 0 0 0 ca 0 0 0 (m:Int)⟩
 have f12:(((w.alloc (fmO a (some ⟨ga,0,none⟩) ca)).alloc zMk)).cell? ⟨w.heap.size,12,none⟩=some (.slice (some ⟨ga,0,none⟩) a.toks.length ca):=cell_at (two_1 w (fmO a (some ⟨ga,0,none⟩) ca) zMk) 12
 have hzz:((w.alloc (fmO a (some ⟨ga,0,none⟩) ca)).alloc zMk).heap.size=w.heap.size+1+1:=by simp
 rw[hzz] at s0
 generalize hW0:((w.alloc (fmO a (some ⟨ga,0,none⟩) ca)).alloc zMk).alloc (.cells #[.slice (some ⟨ga,0,none⟩) a.toks.length ca,.slice none 0 0,.slice none 0 0,.slice none 0 0,.int .i64 (m:Int)] 50)=W0 at H0 s0
 generalize hW:(w.alloc (fmO a (some ⟨ga,0,none⟩) ca)).alloc zMk=WZ at s0 f12 hzz
 simp only[fmO,zMk] at hW
 have hC:Hid _:=⟨c⟩
 have hlen:Hid _:=⟨c.len⟩
 have hm1:(m:Int)<=100:=by have:=c.mm;omega
 have hm0:(0:Int)<=m:=by omega
 have hll:ks.length<=733007751850:=by have:=c.ln;omega
 have hwn:IntKind.i64.wrap (-(m:Int)) = -(m:Int):=by rw[IntKind.wrap_i64];omega
 have hwm:IntKind.i64.wrap (1000*(m:Int))=((1000*m:Nat):Int):=by rw[IntKind.wrap_i64];omega
 clear c
 go_enter Tryz.func10,Tryz.ntmps10
 go_wp2_with (first
  | (guard_target =~ wpList _ _ _ (Oper.mk _ (Op.store 50 _ _) _ _ _ _::_) _ _;go_must (refine wpList_st 50 _ _ rfl rfl _ _ rfl rfl (s0.out _ rfl) ?_);simp only[pts]))
 clear s0 f12 hW0 hW hzz
 go_loopw [6] (fun q wr=>∃ (j:Nat) (ks':List Ktp) (pv:Option Addr) (cv:Nat),j<=ks.length/\q = .int .i64 (j:Int)/\Hid (M1 w a (some ⟨ga,0,none⟩) ca B E m ks j 0 ks' (.slice pv j cv) wr)) (fun q _=>ks.length-(RowKit.intOf q).toNat)
 case atStart=>exact⟨0,ks,none,0,Nat.zero_le _,by go_num,H0⟩
 case round =>
  clear H0
  obtain⟨j,ks',pv,cv,hj,rfl,hI⟩:=hrel
  have x12:wr.cell? ⟨w.heap.size,12,none⟩=some (.slice (some ⟨ga,0,none⟩) a.toks.length ca):=cell_at hI.out.fb 12
  by_cases hlt:j<ks.length
  ·obtain⟨y,hy⟩:∃ y,ks'[j]?=some y:=⟨ks'[j]'(by rw[hI.out.mr.len];exact hlt),List.getElem?_eq_getElem _⟩
   have k12:wr.cell? ⟨ga,j*21+12,none⟩=some (.slice y.p y.t.cst.length y.c):=by
    obtain⟨ga',ea,k12⟩:=hI.out.word hy
    cases ea
    exact k12
   have hji:(j:Int)<a.toks.length:=by have:=hlen.out;omega
   have hcs:y.t.cst.length<=100000000000000:=by
    obtain⟨x,x1,-,-,x3⟩:=hI.out.mr.back hy
    have:=hC.out.cs x (List.mem_of_getElem? x1)
    omega
   have hwj:IntKind.i64.wrap (((1000*m:Nat):Int)+(j:Int))=((1000*m+j:Nat):Int):=by rw[IntKind.wrap_i64];omega
   have hwu:IntKind.u64.wrap ((1000*m+j:Nat):Int)=((1000*m+j:Nat):Int):=by rw[IntKind.wrap_u64];omega
   have hS:Hid (M1y w a (some ⟨ga,0,none⟩) ca B E m ks j 0 ks' (.slice pv j cv) y wr):=⟨y,hI.out,hy,rfl,rfl,rfl⟩
   clear hI hy
   go_wp2_with fail
   go_loopw [8] (fun q wq=>∃ (k:Nat) (ks2:List Ktp),k<=y.t.cst.length/\q = .int .i64 (k:Int)/\Hid (M1y w a (some ⟨ga,0,none⟩) ca B E m ks j k ks2 (.slice pv j cv) y wq)) (fun q _=>y.t.cst.length-(RowKit.intOf q).toNat)
   case atStart=>exact⟨0,ks',Nat.zero_le _,by go_num,hS⟩
   case round =>
    clear hS x12 k12
    obtain⟨k,ks2,hk,rfl,hI⟩:=hrel
    by_cases hlt2:k<y.t.cst.length
    ·obtain⟨g,ey,⟨u,hu⟩,hf,ks3,hN⟩:=hI.out.put hC.out hlt2
     have hki:(k:Int)<y.t.cst.length:=by omega
     rw[show ((1000*m+j:Nat):Int)=1000*(m:Int)+(j:Int) by omega] at hN
     replace hN:=Hid.mk hN
     clear hI
     go_wp2_with fail
     go_roundw
     case rel=>exact⟨k+1,ks3,by omega,by go_num,hN⟩
     case measure=>simp[RowKit.intOf];omega
    ·obtain rfl:k=y.t.cst.length:=by omega
     have d3:decide ((y.t.cst.length:Int)<y.t.cst.length)=false:=by simp
     obtain⟨x2,pv',cv',w',hap,xc,xf,hN⟩:=hI.out.push hC.out
     have hAP:Hid (∃ v1 w1,(∀ ty,(Builtin.append_ #[48,48] ty #[.slice pv j cv,.slice (some ⟨wr.heap.size,0,none⟩) 1 1]).run Tryz.prog (wr.alloc (.cells #[.slice y.p y.t.cst.length y.c] 38)) = .ok v1 w1)/\(v1 = .slice pv' (j+1) cv'/\w1=w')):=⟨_,_,hap,rfl,rfl⟩
     replace hN:=Hid.mk hN
     generalize hWn:w'.setCell ⟨w.heap.size+1+1,2,none⟩ (.slice pv' (j+1) cv')=Wn at hN
     clear hI hlt2 hap
     go_wp2_with (first
      | (at_builtin;go_must (refine(ap_step (by rfl) _ _ _ _ (by rfl) _ _ (by rfl) (by rfl) _ hAP.out ?_));rintro v8 w8 ⟨rfl,rfl⟩))
     go_roundw
     case rel=>exact⟨j+1,ks2,pv',cv',by omega,by go_num,hN⟩
     case measure=>simp[RowKit.intOf];omega
  ·obtain rfl:j=ks.length:=by omega
   have d3:¬ ks.length<a.toks.length:=by have:=hlen.out;omega
   have H2:Hid (M2 w a (some ⟨ga,0,none⟩) ca B E m ks pv cv wr.heap.size 0 (.slice none 0 0) [] wr):=⟨M2.start hC.out hI.out⟩
   have hE1:Hid _:=⟨hI.out.lt⟩
   generalize wr.heap.size=E1 at H2 hE1
   clear hI hlt
   go_wp2_with fail
   clear x12
   go_loopw [9] (fun q wr=>∃ (j:Nat) (ls:List Value) (pl:Option Addr) (cl:Nat),j<=ks.length/\q = .int .i64 (j:Int)/\Hid (M2 w a (some ⟨ga,0,none⟩) ca B E m ks pv cv E1 j (.slice pl j cl) ls wr)) (fun q _=>ks.length-(RowKit.intOf q).toNat)
   case atStart=>exact⟨0,[],none,0,Nat.zero_le _,by go_num,H2⟩
   case round =>
    clear H2
    obtain⟨j,ls,pl,cl,hj,rfl,hI⟩:=hrel
    have x12:wr.cell? ⟨w.heap.size,12,none⟩=some (.slice (some ⟨ga,0,none⟩) a.toks.length ca):=cell_at hI.out.fb 12
    by_cases hlt:j<ks.length
    ·obtain⟨x,hx⟩:∃ x,ks[j]?=some x:=⟨ks[j],List.getElem?_eq_getElem hlt⟩
     obtain⟨gC,ga',p',c',wA,pl',cl',wB,rfl,ea,k1,k2,k3,k4,k5,k6,k7,k8,k9⟩:=hI.out.step hC.out hx
     cases ea
     have x2:wr.cell? ⟨w.heap.size+1+1,2,none⟩=some (.slice (some ⟨gC,0,none⟩) ks.length cv):=cell_at hI.out.xb 2
     have hji:(j:Int)<a.toks.length:=by have:=hlen.out;omega
     have hjk:(j:Int)<ks.length:=by omega
     have hwj:IntKind.i64.wrap (((1000*m:Nat):Int)+(j:Int))=((1000*m+j:Nat):Int):=by rw[IntKind.wrap_i64];omega
     have hwu:IntKind.u64.wrap ((1000*m+j:Nat):Int)=((1000*m+j:Nat):Int):=by rw[IntKind.wrap_u64];omega
     rw[show ((1000*m+j:Nat):Int)=1000*(m:Int)+(j:Int) by omega] at k2
     have hA1:Hid (∃ v1 w1,(∀ ty,(Builtin.append_ #[38,38] ty #[.slice x.p x.t.cst.length x.c,.slice (some ⟨wr.heap.size,0,none⟩) 1 1]).run Tryz.prog (wr.alloc (.cells #[.int .u64 (1000*(m:Int)+(j:Int))] 37)) = .ok v1 w1)/\(v1 = .slice p' (x.t.cst.length+1) c'/\w1=wA)):=⟨_,_,k2,rfl,rfl⟩
     have hA2:Hid (∃ v1 w1,(∀ ty,(Builtin.append_ #[48,48] ty #[.slice pl j cl,.slice (some ⟨wA.heap.size,0,none⟩) 1 1]).run Tryz.prog (wA.alloc (.cells #[.slice p' (x.t.cst.length+1) c'] 38)) = .ok v1 w1)/\(v1 = .slice pl' (j+1) cl'/\w1=wB)):=⟨_,_,k4,rfl,rfl⟩
     have hS8:Hid _:=⟨k8⟩
     replace k9:=Hid.mk k9
     generalize hWn:wB.setCell ⟨w.heap.size+1+1,3,none⟩ (.slice pl' (j+1) cl')=Wn at hS8 k7 k9
     clear hI hx k2 k4 k8
     go_wp2_with (first
      | (at_builtin;go_must (first|refine(ap_step (by rfl) _ _ _ _ (by rfl) _ _ (by rfl) (by rfl) _ hA1.out ?_)|refine(ap_step (by rfl) _ _ _ _ (by rfl) _ _ (by rfl) (by rfl) _ hA2.out ?_));rintro v8 w8 ⟨rfl,rfl⟩)
      | (guard_target =~ wpList _ _ _ (Oper.mk _ (Op.store 40 _ _) _ _ _ _::_) _ _;go_must (refine wpList_st 40 _ _ rfl rfl _ _ (by go_num) (by go_num) hS8.out ?_);simp only[pts]))
     go_roundw
     case rel=>exact⟨j+1,_,pl',cl',by omega,by go_num,k9⟩
     case measure=>simp[RowKit.intOf];omega
    ·obtain rfl:j=ks.length:=by omega
     have d3:¬ ks.length<a.toks.length:=by have:=hlen.out;omega
     obtain⟨pm,cm,wE,k1,k2,k3,x,k4,k5,k6,k7,k8,k9,k10⟩:=hI.out.last hC.out
     have hA1:Hid (∃ v1 w1,(∀ ty,(Builtin.append_ #[28,28] ty #[.slice (some ⟨ga,0,none⟩) a.toks.length ca,.slice (some ⟨wr.heap.size,0,none⟩) 1 1]).run Tryz.prog (wr.alloc (.cells (mTk m).toArray 40)) = .ok v1 w1)/\(v1 = .slice pm (a.toks.length+1) cm/\w1=wE)):=⟨_,_,k1,rfl,rfl⟩
     replace k4:=Hid.mk k4
     replace k5:=Hid.mk k5
     replace k6:=Hid.mk k6
     replace k7:=Hid.mk k7
     replace k8:=Hid.mk k8
     generalize hWn:wE.setCell ⟨w.heap.size+1+1,1,none⟩ (.slice pm (a.toks.length+1) cm)=Wn at k4 k5 k6 k7 k8
     clear hI hlt k1
     go_wp2_with (first
      | (at_builtin;go_must (refine(ap_step (by rfl) _ _ _ _ (by rfl) _ _ (by rfl) (by rfl) _ hA1.out ?_));rintro v8 w8 ⟨rfl,rfl⟩)
      | (guard_target =~ wpList _ _ _ (Oper.mk _ (Op.load 50 _) _ _ _ _::_) _ _;go_must (refine wpList_ld 50 _ rfl rfl _ _ rfl k4.out ?_);simp only[pts])
      | (guard_target =~ wpList _ _ _ (Oper.mk _ (Op.store 50 _ _) _ _ _ _::_) _ _;go_must (refine wpList_st 50 _ _ rfl rfl _ _ rfl rfl k5.out ?_);simp only[pts]))
     exact bodyPost_ret (results_cell_row rfl _ _ (w.heap.size+1) 50 _ (0,0) _ rfl (setRow_heap _ _ _ _ _ _ k6.out) Tryz.underlying50 rfl infoMk) rfl ⟨x,rfl,k7.out,k8.out,k9,k10⟩
theorem whole_any (x:Mkv) (w:World) (S:Nat->Prop) (h:MkOk w S x) (hS:∀ g,S g->g<w.heap.size) :
  Calls Tryz.prog 11 #[x.v] w fun e w'=>e = .returned (.bool true)/\Below w.heap.size w w':=by
 have hb:=bel1 w x.o
 have h1:MkOk (w.alloc x.o) S x:=h.keep fun g hg=>⟨hb.block g (hS g hg),hg⟩
 have hx:=heap_al w x.o
 obtain⟨pa,n,ca,pm,cm,pc,cc,pl,cl,m⟩:=x
 have c0:=cell_at hx 0
 have c1:=cell_at hx 1
 have c2:=cell_at hx 2
 have c3:=cell_at hx 3
 have c4:=cell_at hx 4
 clear hx h hS
 generalize hW:w.alloc (Mkv.o ⟨pa,n,ca,pm,cm,pc,cc,pl,cl,m⟩)=W at hb h1 c0 c1 c2 c3 c4
 simp only[Mkv.o] at hW
 replace c0:W.cell? ⟨w.heap.size,0,none⟩=some (.slice pa n ca):=c0
 replace c1:W.cell? ⟨w.heap.size,1,none⟩=some (.slice pm (n+1) cm):=c1
 replace c2:W.cell? ⟨w.heap.size,2,none⟩=some (.slice pc n cc):=c2
 replace c3:W.cell? ⟨w.heap.size,3,none⟩=some (.slice pl n cl):=c3
 replace c4:W.cell? ⟨w.heap.size,4,none⟩=some (.int .i64 (m:Int)):=c4
 replace hb:=Hid.mk hb
 obtain⟨hn,hm⟩:n<=733007751850/\m<=100:=h1.big
 have hm1:(m:Int)<=100:=by omega
 have hm0:(0:Int)<=m:=by omega
 have hwn:IntKind.i64.wrap (-(m:Int)) = -(m:Int):=by rw[IntKind.wrap_i64];omega
 have hwm:IntKind.i64.wrap (1000*(m:Int))=((1000*m:Nat):Int):=by rw[IntKind.wrap_i64];omega
 have I:Hid _:=⟨h1.ids⟩
 have Mo:Hid _:=⟨h1.more⟩
 have Wr:Hid _:=⟨h1.wrd⟩
 simp only[] at I Mo Wr
 clear h1
 go_enter Tryz.func11,Tryz.ntmps11
 go_wp2_with fail
 go_loopw [3] (fun q wr=>∃ j:Nat,j<=n/\q = .int .i64 (j:Int)/\wr=W) (fun q _=>n-(RowKit.intOf q).toNat)
 case atStart=>exact⟨0,Nat.zero_le _,by go_num,rfl⟩
 case round =>
  obtain⟨j,hj,rfl,rfl⟩:=hrel
  by_cases hlt:j<n
  ·obtain⟨gc,gl,p,l,c,p',c',rfl,-,rfl,-,k1,k2,kl,k3,k4⟩:=Wr.out j hlt
   have hji:(j:Int)<n:=by omega
   have hwj:IntKind.i64.wrap (((1000*m:Nat):Int)+(j:Int))=((1000*m+j:Nat):Int):=by rw[IntKind.wrap_i64];omega
   have hwu:IntKind.u64.wrap ((1000*m+j:Nat):Int)=((1000*m+j:Nat):Int):=by rw[IntKind.wrap_u64];omega
   replace k3:=Hid.mk k3
   replace k4:=Hid.mk k4
   go_wp2_with fail
   go_loopw [4] (fun q wi=>∃ k:Nat,k<=l+1/\q = .int .i64 (k:Int)/\wi=wr) (fun q _=>l+1-(RowKit.intOf q).toNat)
   case atStart=>exact⟨0,Nat.zero_le _,by go_num,rfl⟩
   case round =>
    obtain⟨k,hk,rfl,rfl⟩:=hrel
    by_cases hlt2:k<l+1
    ·obtain⟨g',e',-,q4⟩:=k4.out k hlt2
     subst e'
     have hki:(k:Int)<((l+1:Nat):Int):=by omega
     by_cases hlt3:k<l
     ·obtain⟨g3,e3,-,q3⟩:=k3.out k hlt3
      subst e3
      have hkl:(k:Int)<l:=by omega
      go_wp2_with fail
      go_roundw
      case rel=>exact⟨k+1,by omega,by go_num,trivial⟩
      case measure=>simp[RowKit.intOf];omega
     ·have hkl:decide ((k:Int)<l)=false:=by simp;omega
      go_wp2_with fail
      go_roundw
      case rel=>exact⟨k+1,by omega,by go_num,trivial⟩
      case measure=>simp[RowKit.intOf];omega
    ·obtain rfl:k=l+1:=by omega
     have d3:decide (((l+1:Nat):Int)<((l+1:Nat):Int))=false:=by simp
     go_wp2_with fail
     go_roundw
     case rel=>exact⟨j+1,by omega,by go_num,trivial⟩
     case measure=>simp[RowKit.intOf];omega
  ·obtain rfl:j=n:=by omega
   have d3:decide ((j:Int)<j)=false:=by simp
   go_wp2_with fail
   obtain⟨HH,hHH⟩:∃ H,wr.heap=H:=⟨_,rfl⟩
   have hc:∀ V:World,V.heap=HH->∀ a,V.cell? a=wr.cell? a:=fun V h a=>by simp only[World.cell?,h,hHH]
   have K0:Hid (∀ V:World,V.heap=HH->V.cell? ⟨w.heap.size,0,none⟩=some (.slice pa j ca)/\V.cell? ⟨w.heap.size,1,none⟩=some (.slice pm (j+1) cm)/\V.cell? ⟨w.heap.size,4,none⟩=some (.int .i64 (m:Int))):=⟨fun V h=>⟨(hc V h _).trans c0,(hc V h _).trans c1,(hc V h _).trans c4⟩⟩
   have KI:Hid (∀ k,k<j->∃ g,pa=some ⟨g,0,none⟩/\∀ V:World,V.heap=HH->V.cell? ⟨g,k*21+2,none⟩=some (.int .i64 (-(m:Int)))):=⟨fun k hk=>by
    obtain⟨g,e,-,h⟩:=I.out k hk
    exact⟨g,e,fun V hV=>(hc V hV _).trans h⟩⟩
   have KM:Hid (∀ k,k<j+1->∃ g,pm=some ⟨g,0,none⟩/\∀ V:World,V.heap=HH->V.cell? ⟨g,k*21+2,none⟩=some (.int .i64 (-(m:Int)))):=⟨fun k hk=>by
    obtain⟨g,e,-,h⟩:=Mo.out k hk
    exact⟨g,e,fun V hV=>(hc V hV _).trans h⟩⟩
   have hP0:Hid (wr.heap=HH/\Below w.heap.size w wr):=⟨hHH,hb.out⟩
   clear hc hb c0 c1 c2 c3 c4 I Mo Wr hHH
   go_loopw [6] (fun q wi=>∃ k:Nat,k<=j+1/\q = .int .i64 (k:Int)/\Hid (wi.heap=HH/\Below w.heap.size w wi)) (fun q _=>j+1-(RowKit.intOf q).toNat)
   case atStart=>exact⟨0,Nat.zero_le _,by go_num,hP0⟩
   case round =>
    clear hP0
    obtain⟨k,hk,rfl,hI⟩:=hrel
    obtain⟨c0,c1,c4⟩:=K0.out wr hI.out.1
    by_cases hlt2:k<j+1
    ·obtain⟨g',e',q4⟩:=KM.out k hlt2
     have hki:(k:Int)<((j+1:Nat):Int):=by omega
     obtain⟨p,pI,pE,pN⟩:∃ p:World->Prop,(∀ V:World,V.heap=HH/\Below w.heap.size w V->p V)/\(∀ V,p V->V.heap=HH/\Below w.heap.size w V)/\Nonempty (CW p):=⟨fun V=>V.heap=HH/\Below w.heap.size w V,fun _ h=>h,fun _ h=>h,⟨⟨wr,hI.out⟩⟩⟩
     have p0:p wr.drew:=pI _ ⟨hI.out.1,hI.out.2.drew⟩
     have d0:∀ θ:CW p,θ.w.cell? ⟨w.heap.size,0,none⟩=some (.slice pa j ca):=fun θ=>(K0.out θ.w (pE _ θ.h).1).1
     have d1:∀ θ:CW p,θ.w.cell? ⟨w.heap.size,1,none⟩=some (.slice pm (j+1) cm):=fun θ=>(K0.out θ.w (pE _ θ.h).1).2.1
     have d4:∀ θ:CW p,θ.w.cell? ⟨w.heap.size,4,none⟩=some (.int .i64 (m:Int)):=fun θ=>(K0.out θ.w (pE _ θ.h).1).2.2
     have q5:∀ θ:CW p,θ.w.cell? ⟨g',k*21+2,none⟩=some (.int .i64 (-(m:Int))):=fun θ=>q4 θ.w (pE _ θ.h).1
     rw[e'] at d1 c1
     by_cases hlt3:k<j
     ·obtain⟨g3,e3,q3⟩:=KI.out k hlt3
      have q6:∀ θ:CW p,θ.w.cell? ⟨g3,k*21+2,none⟩=some (.int .i64 (-(m:Int))):=fun θ=>q3 θ.w (pE _ θ.h).1
      rw[e3] at d0
      have hkl:(k:Int)<j:=by omega
      have hF:=pE _ p0
      replace hF:=Hid.mk hF
      clear q3 q4 K0 KM KI pI pE
      go_wp2_with fail
      refine wp_region_pp p [0,1,2,3,4,5,6,7,8,9,10,11,12,13,14,15,16,17,18,19,20,21,22,23,24,25,26,27,28] (by kernel_rfl) (by kernel_rfl) (fun _ _ d _ _ h=>by cases d<;>exact h) p0 ?_
      simp only[List.filterMap_cons,List.filterMap_nil,List.getElem?_cons_zero,List.getElem?_cons_succ]
      generalize wr.drew=W at p0 hF ⊢
      repeat (refine lx_one rfl ?_;(first|go_big_quiet_skip|(go_big_quiet_want;go_big_quiet_op;go_big_quiet_on));refine wpQuiet_nil ?_)
      refine lx_done ?_
      clear d0 d1 d4 q5 q6 p0 pN
      go_wp2_with fail
      go_roundw
      case rel=>exact⟨k+1,by omega,by go_num,hF⟩
      case measure=>simp[RowKit.intOf];omega
     ·have hkl:decide ((k:Int)<j)=false:=by simp;omega
      have hF:=pE _ p0
      replace hF:=Hid.mk hF
      clear q4 K0 KM KI pI pE
      go_wp2_with fail
      refine wp_region_pp p [0,1,2,3,4,5,6,7,8,9,10,11,12,13,14,15,16,17,18,19,20,21,22,23,24,25,26,27,28] (by kernel_rfl) (by kernel_rfl) (fun _ _ d _ _ h=>by cases d<;>exact h) p0 ?_
      simp only[List.filterMap_cons,List.filterMap_nil,List.getElem?_cons_zero,List.getElem?_cons_succ]
      generalize wr.drew=W at p0 hF ⊢
      repeat (refine lx_one rfl ?_;(first|go_big_quiet_skip|(go_big_quiet_want;go_big_quiet_op;go_big_quiet_on));refine wpQuiet_nil ?_)
      refine lx_done ?_
      clear d0 d1 d4 q5 p0 pN
      go_wp2_with fail
      go_roundw
      case rel=>exact⟨k+1,by omega,by go_num,hF⟩
      case measure=>simp[RowKit.intOf];omega
    ·obtain rfl:k=j+1:=by omega
     have d4:decide (((j+1:Nat):Int)<((j+1:Nat):Int))=false:=by simp
     go_wp2_with fail
     go_ret
     exact⟨by go_num,hI.out.2⟩
theorem check_none (f:Fm) (pp:Option Addr) (cp:Nat) (w:World) (hf:f.toks=[]) (kt:KT w) :
  Calls Tryz.prog 53 #[fmV f pp cp] w fun r w'=>r = .returned (fltV (chkZ f))/\Below w.heap.size w w':=by
 replace hf:=Hid.mk hf
 have hX:((w.alloc (fmO f pp cp)).alloc (.cells #[.int .i64 0,.int .i64 0] 93)).heap[w.heap.size]?=some (fmO f pp cp):=by
  show ((w.heap.push _).push _)[w.heap.size]?=_
  rw[Array.getElem?_push,if_neg (by simp),Array.getElem?_push,if_pos rfl]
 have hY:((w.alloc (fmO f pp cp)).alloc (.cells #[.int .i64 0,.int .i64 0] 93)).heap[w.heap.size+1]?=some (.cells #[.int .i64 0,.int .i64 0] 93):=by
  show ((w.heap.push _).push _)[w.heap.size+1]?=_
  rw[Array.getElem?_push,if_pos (by simp)]
 have HB:Below w.heap.size w ((w.alloc (fmO f pp cp)).alloc (.cells #[.int .i64 0,.int .i64 0] 93)):=(bel1 w _).alloc (by simp) _
 have HS:((w.alloc (fmO f pp cp)).alloc (.cells #[.int .i64 0,.int .i64 0] 93)).heap.size=w.heap.size+2:=by simp
 generalize hW:(w.alloc (fmO f pp cp)).alloc (.cells #[.int .i64 0,.int .i64 0] 93)=W at hX hY HB HS
 simp only[fmO] at hW
 have hF:FmC W w.heap.size 0 f pp cp:=⟨cell_at hX 0,cell_at hX 1,cell_at hX 2,cell_at hX 3,cell_at hX 4,cell_at hX 5,cell_at hX 6,cell_at hX 7,cell_at hX 8,cell_at hX 9,cell_at hX 10,cell_at hX 11,cell_at hX 12⟩
 have cH:=isHeaded_any f w.heap.size 0 pp cp W (kt.up HB) (by omega) hF
 replace cH:=Hid.mk cH
 replace hX:=Hid.mk hX
 replace hY:=Hid.mk hY
 replace hF:=Hid.mk hF
 replace HB:=Hid.mk HB
 cases hhd:headB f with
 | false =>
  have hz:chkZ f=some (-1):=by unfold chkZ;rw[hhd];rfl
  rw[hz]
  rw[hhd] at cH
  clear hhd hz
  go_enter Tryz.func53,Tryz.ntmps53
  go_wp2_with (go_at_call 69;refine cH.out.mono ?_;rintro _ w1 ⟨rfl,hb⟩;have y1:=(hb.block (w.heap.size+1) (by omega)).trans hY.out;have y10:=cell_at y1 0;have y11:=cell_at y1 1;have yf:∀ k,w1.frozen? ⟨w.heap.size+1,k,none⟩=false:=(fun k=>by simp[World.frozen?,y1]);replace y1:=Hid.mk y1;replace hb:=Hid.mk hb)
  refine bodyPost_ret (results_cell_row rfl _ _ (w.heap.size+1) 93 #[.int .i64 121,.int .i64 (-1)] (0,0) _ rfl (flt_set _ _ y1.out) Tryz.underlying93 rfl infoFt) rfl ⟨rfl,?_⟩
  exact((HB.out.trans (hb.out.mono HB.out.size)).setCell (p:=⟨w.heap.size+1,0,none⟩) (by show w.heap.size<=w.heap.size+1;omega) _).setCell (p:=⟨w.heap.size+1,1,none⟩) (by show w.heap.size<=w.heap.size+1;omega) _
 | true =>
  have hz:chkZ f=runZ f f.toks 0 ⟨[],[]⟩:=by unfold chkZ;rw[hhd];rfl
  rw[hz]
  rw[hhd] at cH
  clear hhd hz
  have hZ:runZ f f.toks 0 ⟨[],[]⟩=some 0:=by rw[hf.out,runZ,if_pos (.inl rfl)];rfl
  rw[hZ]
  clear hZ
  replace kt:=Hid.mk kt
  go_enter Tryz.func53,Tryz.ntmps53
  go_wp2_with (first
   | (go_at_call 69;refine cH.out.mono ?_;rintro _ w1 ⟨rfl,hb⟩;replace hb:=Hid.mk hb)
   | (go_at_call 70;refine(newChecker_any w.heap.size w1).mono ?_;rintro _ w2 ⟨rfl,hck,hrl,hm1,hm2,hm3,hs2,hb2⟩;replace hck:=Hid.mk hck;replace hrl:=Hid.mk hrl;replace hm1:=Hid.mk hm1;replace hm2:=Hid.mk hm2;replace hm3:=Hid.mk hm3;replace hs2:=Hid.mk hs2;replace hb2:=Hid.mk hb2))
  have hw1:=hb.out.size
  have hb02:Below w.heap.size w w2:=HB.out.trans ((hb.out.trans (hb2.out.mono hw1)).mono HB.out.size)
  have hF2:=(hF.out.below (by omega) hb.out).below (Nat.lt_of_lt_of_le (by omega:w.heap.size<W.heap.size) hw1) hb2.out
  have hY2:=(hb2.out.block (w.heap.size+1) (by omega)).trans ((hb.out.block (w.heap.size+1) (by omega)).trans hY.out)
  have k2:=hck.out.ck.c2
  have k23:=hck.out.ck.c23
  have m12:w2.cell? ⟨w.heap.size,12,none⟩=some (.slice pp 0 cp):=by have:=hF2.c12;rw[hf.out] at this;exact this
  have hY0:=cell_at hY2 0
  have hY1:=cell_at hY2 1
  have yf:∀ k,w2.frozen? ⟨w.heap.size+1,k,none⟩=false:=fun k=>by simp[World.frozen?,hY2]
  replace hF2:=Hid.mk hF2
  replace hY2:=Hid.mk hY2
  replace hb02:=Hid.mk hb02
  go_loopw [4] (fun u wr=>wr=w2/\u=u) (fun _ _=>0)
  case atStart=>exact⟨rfl,rfl⟩
  case round =>
   obtain⟨hwr,-⟩:=hrel
   obtain rfl:w2=wr:=hwr.symm
   go_wp2_with fail
   go_quiet (fail)
   go_wp2_with fail
   refine bodyPost_ret (results_cell_row rfl _ _ (w.heap.size+1) 93 #[.int .i64 121,.int .i64 0] (0,0) _ rfl (flt_set (w:=w2.drewN nq) _ _ hY2.out) Tryz.underlying93 rfl infoFt) rfl ⟨rfl,?_⟩
   exact tdr ((hb02.out.setCell (p:=⟨w.heap.size+1,0,none⟩) (by show w.heap.size<=w.heap.size+1;omega) _).setCell (p:=⟨w.heap.size+1,1,none⟩) (by show w.heap.size<=w.heap.size+1;omega) _)
theorem check_any (f:Fm) (pp:Option Addr) (cp:Nat) (w:World) (tl:TkL w pp w.heap.size f.toks) (kt:KT w) (mt:MT w) :
  Calls Tryz.prog 53 #[fmV f pp cp] w fun r w'=>r = .returned (fltV (chkZ f))/\Below w.heap.size w w':=by
 cases hf:f.toks with
 | nil=>exact check_none f pp cp w hf kt
 | cons t r =>
  obtain⟨g,o,pc,cc,rfl,hg,_⟩:=tl.at (i:=0) (by rw[hf];rfl)
  exact check_some f g o cp w tl hg kt mt
def errZ (z:Option Int):Int:=match z with
 | none=>0
 | some _=>121
def atZ (z:Option Int):Int:=match z with
 | none=>0
 | some a=>a
theorem flt_eq (z:Option Int):fltV z = .agg #[.int .i64 (errZ z),.int .i64 (atZ z)]:=by cases z<;>rfl
theorem Check_any (f:Fm) (pp:Option Addr) (cp:Nat) (w:World) (tl:TkL w pp w.heap.size f.toks) (kt:KT w) (mt:MT w) :
  Calls Tryz.prog 39 #[fmV f pp cp] w fun r w'=>r = .returned (.tuple #[.int .i64 (errZ (chkZ f)),.int .i64 (atZ (chkZ f))])/\Below w.heap.size w w':=by
 have c:∀ W,Below w.heap.size w W->Calls Tryz.prog 53 #[fmV f pp cp] W fun r w'=>r = .returned (.agg #[.int .i64 (errZ (chkZ f)),.int .i64 (atZ (chkZ f))])/\Below W.heap.size W w':=fun W hb=>by
  have:=check_any f pp cp W ((tl.below hb).mono hb.size) (kt.up hb) (mt.below mt.pos hb)
  rwa [flt_eq] at this
 replace c:=Hid.mk c
 clear tl kt mt
 generalize errZ (chkZ f)=e at c ⊢
 generalize atZ (chkZ f)=a at c ⊢
 go_enter Tryz.func39,Tryz.ntmps39
 go_wp2_with (go_at_call 53;refine(c.out _ (bel1 _ _)).mono ?_;rintro _ w1 ⟨rfl,hb⟩;replace hb:=Hid.mk hb)
 have v0:=cell_at (heap_al w1 (.cells #[.int .i64 e,.int .i64 a] 93)) 0
 have v1:=cell_at (heap_al w1 (.cells #[.int .i64 e,.int .i64 a] 93)) 1
 go_quiet (fail)
 go_wp2_with fail
 go_ret2
 exact⟨rfl,tdr (((bel1 w _).trans (hb.out.mono (bel1 w _).size)).alloc (Nat.le_trans (bel1 w _).size hb.out.size) _)⟩
end Go.Proofs.YtcgimchhcaankaaGreatDoor

import Derived.Test.YtjlbcdnkglaheaaGreatDoorK13
namespace Go.Proofs.YtjlbcdnkglaheaaGreatDoor
set_option maxRecDepth 1000000
set_option maxHeartbeats 16000000
open Go.ChangeShapes Go.WideShapes Go.ChangeAt Go.RowKit Go.Shelf Go.Maps
section
variable {P:Program} {ops:Array Oper} {Q:Exit->Act->World->Prop} {C:World->Prop} {d:Option Tmp} {ty:TypeId} {ps:String} {af:Array Edge} {gd:Option (Nat×Bool)} {r:List Oper} {a:Act} {w:World}
theorem lw_mu {t:TypeId} {m x y:Operand} {mv p v:Value} {w':World} (hr:(Instr.mapUpdate t mv p v).run P w = .ok () w') (hm:a.eval m=mv) (hx:a.eval x=p) (hy:a.eval y=v) (hw:Region.wanted ⟨d,.mapUpdate t m x y,ty,ps,af,gd⟩ (yielded ops a.tmps)=true) (h:Q .normal (a.put d undef) w'):Lw P ops Q C [⟨d,.mapUpdate t m x y,ty,ps,af,gd⟩] a w :=
 lw_act hw rfl fun K hK=>by
  unfold Oper.wp execOp
  simp only[hm,hx,hy,hr,Sem.run_bind,Result.andThen_ok]
  exact hK _ _ C (.inl rfl) (lw_done h)
theorem ly_lk {t:TypeId} {m x:Operand} {mv p v:Value} {b:Bool} (hr:(Instr.lookup t mv p b).run P w = .ok v w) (hC:C w) (hm:a.eval m=mv) (hx:a.eval x=p) (hw:Region.wanted ⟨d,.lookup t m x b,ty,ps,af,gd⟩ (yielded ops a.tmps)=true) (h:Ly P ops Q C r (a.put d v) w):Ly P ops Q C (⟨d,.lookup t m x b,ty,ps,af,gd⟩::r) a w :=
 ly_act hw rfl fun K hK=>by
  unfold Oper.wp execOp
  simp only[hm,hx,hr,Sem.run_bind,Result.andThen_ok,Sem.run_pure]
  exact hK _ _ C (fun _ h=>h) hC h
end
theorem partAt_en (f:Fm) (hz:chkZ f=none) (k m:Nat) (u:Tk) (hu:f.toks[k]?=some u) (hm:u.pair=(m:Int)) (h1:k<m) (h2:m<f.toks.length) (pp:Option Addr) (cp:Nat) (hcp:f.toks.length<=cp) (w:World) (tl:TkL w pp w.heap.size f.toks) :
  Calls Tryz.prog 55 #[.slice pp f.toks.length cp,.int .i64 (k:Int)] w fun r w'=>∃ g,r = .returned (.pointer (some ⟨g,0,none⟩))/\PartC w' w.heap.size w'.heap.size g (ptT u) (ptL f.toks k u)/\Below w.heap.size w w':=by
 by_cases h:u.op=2
 ·exact partAt_yes f hz k m u hu h hm h1 h2 pp cp hcp w tl
 ·exact partAt_no f.toks k u hu h pp cp w tl
theorem ent_ept:∀ ag w,(callFunc 55 ag).run Tryz.prog w = .ok (.enter 55 ag) w:=enters_of Tryz.func55 (by kernel_rfl) rfl
theorem mkmE:∀ W:World,(Instr.makeMap 68 none).run Tryz.prog W = .ok (.map (some W.heap.size)) (W.alloc (.map #[] 0)):=fun _=>rfl
theorem zeroEp (w:World):(zeroValue 85).run Tryz.prog w = .ok (.pointer none) w:=by kernel_rfl
theorem zeroEb (w:World):(zeroValue 67).run Tryz.prog w = .ok (.pointer none) w:=by kernel_rfl
abbrev eblO (b n:Int) (m:Nat):Obj:=.cells #[.int .i64 b,.int .i64 n,.map (some m)] 70
structure Bw (l:List Tk) (t:Tk) (w:World) (pc:Option Addr) (cc:Nat) (ks1:List Nat) (W:World):Prop where
 t0:W.heap[w.heap.size]?=some (tkO t pc cc)
 b0:W.heap[w.heap.size+2]?=some (eblO t.blk t.full (w.heap.size+1))
 be:Below w.heap.size w W
 m0:∃ (j:Nat) (hs:Value->Option Nat),j<=ks1.length/\QHas W 9 (w.heap.size+1) j hs/\(∀ k∈ks1,(hs (.string (nmAt l k))).isSome) /\
  ∀ (s:ByteArray) (g:Nat),hs (.string s)=some g->∃ k∈ks1,∃ u,l[k]?=some u/\u.name=s/\PartC W (w.heap.size+3) W.heap.size g (ptT u) (ptL l k u)
theorem Bw.sz {l:List Tk} {t:Tk} {w:World} {pc:Option Addr} {cc:Nat} {ks1:List Nat} {W:World} (h:Bw l t w pc cc ks1 W):w.heap.size+3<=W.heap.size:=(Array.getElem?_eq_some_iff.1 h.b0).1
theorem Bw.below {l:List Tk} {t:Tk} {w:World} {pc:Option Addr} {cc:Nat} {ks1:List Nat} {W W':World} (h:Bw l t w pc cc ks1 W) (hb:Below W.heap.size W W'):Bw l t w pc cc ks1 W':=by
 have hs:=h.sz
 obtain⟨j,q,h1,h2,h3,h4⟩:=h.m0
 refine⟨(hb.block _ (by omega)).trans h.t0,(hb.block _ (by omega)).trans h.b0,h.be.trans (hb.mono h.be.size),j,q,h1,h2.same (hb.block _ (by omega)),h3,fun s g e=>?_⟩
 obtain⟨k,hk,u,e1,e2,e3⟩:=h4 s g e
 exact⟨k,hk,u,e1,e2,(e3.same fun x _ hx=>hb.block x hx).mono (Nat.le_refl _) hb.size⟩
theorem Bw.put {l:List Tk} {t:Tk} {w:World} {pc:Option Addr} {cc:Nat} {ks1:List Nat} {W:World} (h:Bw l t w pc cc ks1 W) (hl:ks1.length<=733007751850) {k:Nat} {u:Tk} (hu:l[k]?=some u) (hn:u.name.size<=maxLen) {g:Nat} (hp:PartC W (w.heap.size+3) W.heap.size g (ptT u) (ptL l k u)) :
  ∃ W',(Instr.mapUpdate 68 (.map (some (w.heap.size+1))) (.string u.name) (.pointer (some ⟨g,0,none⟩))).run Tryz.prog W = .ok () W'/\Bw l t w pc cc (ks1++[k]) W':=by
 have hs:=h.sz
 obtain⟨j,q,h1,h2,h3,h4⟩:=h.m0
 obtain⟨W',r1,r2,r3⟩:=h2.put lawS Tryz.underlying68 (by simp only[maxLen];omega) (keyS u.name hn) g
 have hbk:∀ x,x<W.heap.size->x≠w.heap.size+1->W'.heap[x]?=W.heap[x]?:=fun x hx hne=>r3.block x hx (fun e=>hne (Option.some.inj e))
 have hsz:=r3.size
 refine⟨W',r1,(hbk _ (by omega) (by omega)).trans h.t0,(hbk _ (by omega) (by omega)).trans h.b0,⟨r3.os.trans h.be.os,r3.tape.trans h.be.tape,r3.output.trans h.be.output,Nat.le_trans h.be.size hsz,fun x hx=>(hbk x (by omega) (by omega)).trans (h.be.block x hx)⟩,j+1,_,by rw[List.length_append,List.length_singleton];omega,r2,fun k' hk'=>?_,fun s g' e=>?_⟩
 ·by_cases e:nmAt l k'=u.name
  ·simp[e]
  ·simp only[Value.string.injEq,e,if_false]
   rcases List.mem_append.1 hk' with hk' | hk'
   ·exact h3 k' hk'
   ·rw[List.mem_singleton.1 hk',nmAt_some hu] at e
    exact absurd rfl e
 ·have keep:∀ {g':Nat} {tk:Tk} {ls:List Lf},PartC W (w.heap.size+3) W.heap.size g' tk ls->PartC W' (w.heap.size+3) W'.heap.size g' tk ls:=fun hh=>(hh.same fun x hx1 hx2=>hbk x hx2 (by omega)).mono (Nat.le_refl _) hsz
  by_cases e2:s=u.name
  ·subst e2
   simp only[if_true] at e
   cases e
   exact⟨k,List.mem_append_right _ (List.mem_singleton.2 rfl),u,hu,rfl,keep hp⟩
  ·simp only[Value.string.injEq,e2,if_false] at e
   obtain⟨k',hk',u',e3,e4,e5⟩:=h4 s g' e
   exact⟨k',List.mem_append_left _ hk',u',e3,e4,keep e5⟩
theorem Bw.done {l:List Tk} {t:Tk} {w:World} {pc:Option Addr} {cc:Nat} {ks:List Nat} {W:World} {i:Nat} (h:Bw l t w pc cc ks W) (hk:kidsZ l i=ks):BlkC l W w.heap.size W.heap.size (w.heap.size+2) i t:=by
 have hs:=h.sz
 obtain⟨j,q,h1,h2,h3,h4⟩:=h.m0
 refine⟨by omega,by omega,w.heap.size+1,j,q,h.b0,by omega,by omega,h2,by rw[hk];exact h3,fun s g e=>?_⟩
 obtain⟨k,e0,u,e1,e2,e3⟩:=h4 s g e
 exact⟨k,by rw[hk];exact e0,u,e1,e2,e3.mono (by omega) (Nat.le_refl _)⟩
theorem blockAt_any (f:Fm) (hz:chkZ f=none) (p n:Nat) (t:Tk) (ks:List Nat) (hP:Pb f.toks p n t ks) (pp:Option Addr) (cp:Nat) (hcp:f.toks.length<=cp) (w:World) (tl:TkL w pp w.heap.size f.toks) :
  Calls Tryz.prog 32 #[.slice pp f.toks.length cp,.int .i64 (p:Int)] w fun r w'=>∃ g,r = .returned (.pointer (some ⟨g,0,none⟩))/\BlkC f.toks w' w.heap.size w'.heap.size g p t/\Below w.heap.size w w':=by
 obtain⟨g,o,pc,cc,rfl,hg,hT,_,_,hO⟩:=tl.at hP.bg.et
 have hll:f.toks.length<=733007751850:=by have:=tl.len;omega
 have hpl:(p:Int)<(f.toks.length:Int):=by have:=hP.bg.bn;have:=hP.bg.nl;omega
 have lT:Hid _:=⟨hT.load⟩
 have sT:Hid _:=⟨fun z hz=>st_new w z hz t pc cc⟩
 have hT2:=tk_of (thnK w (tkO t pc cc))
 have k14:=hT2.c14
 have k15:=hT2.c15
 simp only[Nat.zero_add] at k14 k15
 have hB1:Hid _:=⟨nbel w (tkO t pc cc)⟩
 have hT0:Hid _:=⟨thnK w (tkO t pc cc)⟩
 have TL:Hid (∀ W,Below w.heap.size w W->TkL W (some ⟨g,o,none⟩) w.heap.size f.toks):=⟨fun W h=>tl.below h⟩
 clear hT tl hO hT2
 go_enter Tryz.func32,Tryz.ntmps32
 go_upto_region 2 with (first
  | (guard_target =~ wpList _ _ _ (Oper.mk _ (Op.load 78 _) _ _ _ _::_) _ _;go_must (refine wpList_ld 78 _ rfl rfl _ _ rfl lT.out ?_);simp only[pts])
  | (guard_target =~ wpList _ _ _ (Oper.mk _ (Op.store 78 _ _) _ _ _ _::_) _ _;go_must (refine wpList_st 78 _ _ rfl rfl _ _ rfl rfl (sT.out _ rfl) ?_);simp only[pts]))
 have hsz:(w.alloc (tkO t pc cc)).heap.size=w.heap.size+1:=World.size_alloc _ _
 generalize hW1:w.alloc (tkO t pc cc)=W1 at *
 have H0:Hid (Bw f.toks t w pc cc [] ((W1.alloc (.map #[] 0)).alloc (eblO t.blk t.full (w.heap.size+1)))):=⟨by
  have s2:(W1.alloc (.map #[] 0)).heap.size=w.heap.size+2:=by rw[World.size_alloc,hsz]
  have b2:=nbel W1 (.map #[] 0)
  have b3:=nbel (W1.alloc (.map #[] 0)) (eblO t.blk t.full (w.heap.size+1))
  have m1:=QHas.made W1 9
  rw[hsz] at m1
  refine⟨(b3.block w.heap.size (by omega)).trans ((b2.block w.heap.size (by omega)).trans hT0.out),by rw[<- s2];exact thnK _ _,hB1.out.trans ((b2.mono hB1.out.size).trans (b3.mono (by omega))),0,fun _=>none,Nat.le_refl _,m1.same (b3.block _ (by omega)),fun k hk=>(by cases hk),fun s g e=>(by cases e)⟩⟩
 have mk1:(Instr.makeMap 68 none).run Tryz.prog W1 = .ok (.map (some (w.heap.size+1))) (W1.alloc (.map #[] 0)):=by rw[mkmE W1,hsz]
 have bx1:Hid ((Instr.box 70 (.agg #[.int .i64 t.blk,.int .i64 t.full,.map (some (w.heap.size+1))])).run Tryz.prog (W1.alloc (.map #[] 0)) = .ok (.pointer (some ⟨w.heap.size+2,0,none⟩)) ((W1.alloc (.map #[] 0)).alloc (eblO t.blk t.full (w.heap.size+1)))):=⟨by
  have s2:(W1.alloc (.map #[] 0)).heap.size=w.heap.size+2:=by rw[World.size_alloc,hsz]
  rw[<- s2]
  simp only[Instr.box,newVar,newRow,run_newObj_alloc,Sem.run_bind,Sem.run_pure,Result.andThen_ok]
  rfl⟩
 have hp1:IntKind.i64.wrap ((p:Int)+1)=(p:Int)+1:=by rw[IntKind.wrap_i64];omega
 clear lT sT hT0 hW1 hB1 hsz
 go_wp2_with (first
  | (guard_target =~ wpList _ _ _ (Oper.mk _ (Op.box 70 _) _ _ _ _::_) _ _;go_must (refine wpList_bx 70 _ rfl rfl _ _ rfl bx1.out ?_);simp only[pts]))
 clear bx1 mk1 k14 k15
 go_loopw [7] (fun q wr=>∃ (i:Nat) (ks1 r:List Nat),q = .int .i64 (i:Int)/\p+1<=i/\i<=n/\Hid (ks=ks1++r/\Chn f.toks i r n/\Bw f.toks t w pc cc ks1 wr)) (fun q _=>n-(RowKit.intOf q).toNat)
 case atStart=>exact⟨p+1,[],ks,by go_num,Nat.le_refl _,by have:=hP.bg.bn;omega,⟨rfl,hP.bg.ch,H0.out⟩⟩
 case round =>
  clear H0
  obtain⟨i,ks1,r,rfl,hi1,hi2,hR⟩:=hrel
  obtain⟨hks,hC,hI⟩:=hR.out
  have t20:=(tk_of hI.t0).c20
  rw[hP.bg.en] at t20
  simp only[Nat.zero_add] at t20
  have hnl:=hP.bg.nl
  have hrn:∀ j∈r,j<n:=fun j hj=>(hP.bg.kn j (by rw[hks];exact List.mem_append_right _ hj)).2
  by_cases hlt:i<n
  ·obtain⟨r',rfl⟩:=chn_head hC hrn hlt
   have hki:i∈ks:=by rw[hks];simp
   have hil:i<f.toks.length:=by omega
   obtain⟨u,hu⟩:∃ u,f.toks[i]?=some u:=⟨f.toks[i],List.getElem?_eq_getElem hil⟩
   obtain⟨hop,mm,hum,hkm,hml⟩:=hP.kop i hki u hu
   obtain⟨hmn,hC2⟩:=chn_next hC (fun j hj=>hrn j (List.mem_cons_of_mem _ hj)) hu hum
   have hlti:(i:Int)<n:=by omega
   have hill:(i:Int)<(f.toks.length:Int):=by omega
   have hw2:IntKind.i64.wrap ((mm:Int)+1)=(mm:Int)+1:=by rw[IntKind.wrap_i64];omega
   have hks2:Hid (ks=(ks1++[i])++r'):=⟨by rw[hks];simp⟩
   have hkl:ks1.length<=733007751850:=by
    have h1:=hks2.out
    have h3:=rise_length hP.bg.up (fun k hk=>(hP.bg.kn k hk).2)
    rw[h1] at h3
    simp at h3
    omega
   obtain⟨_,_,pu,cu,e,_,hTu,_,_,hOu⟩:=(TL.out wr hI.be).at hu
   cases e
   have ON:Hid (∀ W,Below wr.heap.size wr W->Bw f.toks t w pc cc ks1 W/\W.cell? ⟨w.heap.size+2,2,none⟩=some (.map (some (w.heap.size+1)))/\W.cell? ⟨g,o+i*21+1,none⟩=some (.string u.name)):=⟨fun W hb=>by
    have h:=hI.below hb
    obtain⟨_,_,_,_,e,_,hT,_⟩:=(TL.out W h.be).at hu
    cases e
    exact⟨h,cell_at h.b0 2,hT.c1⟩⟩
   have cC:Hid (∀ W:World,Calls Tryz.prog 56 #[.string u.name] W fun e w'=>∃ v,e = .returned v/\(v = .string u.name/\Below W.heap.size W w')):=⟨fun W=>(strClone u.name W hOu.name).mono fun e w' hh=>⟨_,hh.1,rfl,hh.2⟩⟩
   have cP:Hid (∀ W,Below wr.heap.size wr W->Calls Tryz.prog 55 #[.slice (some ⟨g,o,none⟩) f.toks.length cp,.int .i64 (i:Int)] W fun e w'=>∃ v,e = .returned v/\∃ g',v = .pointer (some ⟨g',0,none⟩)/\PartC w' W.heap.size w'.heap.size g' (ptT u) (ptL f.toks i u)/\Below W.heap.size W w'):=⟨fun W hb=>by
    have hBW:=hI.be.trans (hb.mono hI.be.size)
    refine(partAt_en f hz i mm u hu hum hkm hml _ cp hcp W ((TL.out W hBW).mono hBW.size)).mono ?_
    rintro e w' ⟨g',rfl,q1,q2⟩
    exact⟨_,rfl,g',rfl,q1,q2⟩⟩
   have PU:Hid (∀ W W' g',Below wr.heap.size wr W->PartC W' W.heap.size W'.heap.size g' (ptT u) (ptL f.toks i u)->Below W.heap.size W W'->∃ W2,(Instr.mapUpdate 68 (.map (some (w.heap.size+1))) (.string u.name) (.pointer (some ⟨g',0,none⟩))).run Tryz.prog W' = .ok () W2/\Bw f.toks t w pc cc (ks1++[i]) W2/\W2.cell? ⟨g,o+i*21+20,none⟩=some (.int .i64 (mm:Int))):=⟨fun W W' g' hb hp hb2=>by
    have h:=(hI.below hb).below hb2
    have hsz:=(hI.below hb).sz
    obtain⟨W2,r1,r2⟩:=h.put hkl hu (Nat.le_trans hOu.name (by decide)) (hp.mono hsz (Nat.le_refl _))
    refine⟨W2,r1,r2,?_⟩
    obtain⟨_,_,_,_,e,_,hT,_⟩:=(TL.out W2 r2.be).at hu
    cases e
    have:=hT.c20
    rwa [hum] at this⟩
   have HC2:Hid _:=⟨hC2⟩
   obtain⟨p0,pb,pN,x2,y1⟩:∃ p:World->Prop,(∀ W,p W↔Below wr.heap.size wr W)/\Nonempty (CW p)/\(∀ θ:CW p,θ.w.cell? ⟨w.heap.size+2,2,none⟩=some (.map (some (w.heap.size+1))))/\(∀ θ:CW p,θ.w.cell? ⟨g,o+i*21+1,none⟩=some (.string u.name)) :=
    ⟨fun W=>Below wr.heap.size wr W,fun _=>Iff.rfl,⟨⟨wr,Below.refl _ _⟩⟩,fun θ=>(ON.out _ θ.h).2.1,fun θ=>(ON.out _ θ.h).2.2⟩
   replace pb:=Hid.mk pb
   have hd:Hid (Below wr.heap.size wr wr.drew):=⟨(Below.refl _ _).drew⟩
   clear hTu hOu hI hR hC hC2 hu hum ON hks hki
   go_upto_region 6 with fail
   refine wp_region_lwt 13 (fun V=>∃ θ:CW p0,V=θ.w) [0,1,2,3,4,5,6,7,8,10,11,9,12,13] (by kernel_rfl) (by kernel_rfl) (fun _ _ d _ _ h=>by cases d<;>exact h) ⟨⟨_,(pb.out _).2 hd.out⟩,rfl⟩ ?_
   simp only[List.filterMap_cons,List.filterMap_nil,List.getElem?_cons_zero,List.getElem?_cons_succ]
   generalize wr.drew=V at hd ⊢
   repeat (first|(guard_target =~ Lw _ _ _ _ (Oper.mk _ (Op.call _) _ _ _ _::_) _ _;fail)|(guard_target =~ Lw _ _ _ _ (Oper.mk _ (Op.mapUpdate _ _ _ _) _ _ _ _::_) _ _;fail)|(refine lw_one rfl ?_;(first|go_big_quiet_skip|(go_big_quiet_want;go_big_quiet_op;go_big_quiet_on));refine wpQuiet_nil ?_))
   refine lw_call1 ent_clone (cC.out V) rfl (by rfl) ?_
   rintro _ V1 ⟨rfl,b1⟩
   have hd1:=hd.out.trans (b1.mono hd.out.size)
   refine⟨⟨⟨_,(pb.out _).2 hd1⟩,rfl⟩,?_⟩
   simp only[pts]
   replace hd1:=Hid.mk hd1
   refine lw_call2 ent_ept (cP.out V1 hd1.out) rfl rfl (by rfl) ?_
   rintro _ V2 ⟨g',rfl,hp,b2⟩
   have hd2:=hd1.out.trans (b2.mono hd1.out.size)
   refine⟨⟨⟨_,(pb.out _).2 hd2⟩,rfl⟩,?_⟩
   simp only[pts]
   obtain⟨V3,r1,r2,r3⟩:=PU.out V1 V2 g' hd1.out hp b2
   refine lw_mu r1 rfl rfl rfl (by rfl) ?_
   simp only[pts]
   replace r2:=Hid.mk r2
   clear r1 hp b2 hd2 hd1 b1 hd PU cP cC pb x2 y1 pN
   go_wp2_with fail
   go_roundw
   case rel=>exact⟨mm+1,ks1++[i],r',by go_num,by omega,by omega,⟨hks2.out,HC2.out,r2.out⟩⟩
   case measure=>simp[RowKit.intOf];omega
  ·obtain rfl:i=n:=by omega
   have hr0:=chn_end hC hrn
   subst hr0
   rw[List.append_nil] at hks
   subst hks
   have b1:decide ((i:Int)<(i:Int))=false:=by simp
   have HD:Hid _:=⟨hI.done hP.bg.kids⟩
   have HB:Hid _:=⟨hI.be⟩
   clear hR hC hI TL
   go_wp2_with fail
   go_ret
   exact⟨_,rfl,HD.out,HB.out⟩
theorem ent_isPlaced:∀ ag w,(callFunc 82 ag).run Tryz.prog w = .ok (.enter 82 ag) w:=enters_of Tryz.func82 (by kernel_rfl) rfl
def codT (xt t:Tk):Bool:=decide (t.off=xt.off)&&decide (t.siz=xt.siz)&&decide (t.pres=xt.pres)&&decide (t.len=1)
theorem isCoding_any (c:Cf) (f:Fm) (L:List Sv) (x:Sv) (xt t:Tk) (rl:Value) (dep:Nat->Int) (wh:Bool) (w:World) (h:Ct w c f L x xt t rl dep wh) :
  Calls Tryz.prog 113 #[.pointer (some ⟨c.B,0,none⟩),.pointer (some ⟨c.g,c.o+c.i*21,none⟩)] w fun r w'=>r = .returned (.bool (codT xt t))/\Ct w' c f L { x with cod:=t.prim } xt t rl dep wh/\Kb [c.go] w w':=by
 have cT:=top_any c.B c.go L.length c.cap w h.ck.c0 h.ln
 have hY:∀ W,Below w.heap.size w W->W.cell? ⟨c.g,c.o+c.i*21+6,none⟩=some (.int .i64 t.prim)/\W.cell? ⟨c.go,L.length*8+7,none⟩=some (.int .i64 x.cod)/\W.frozen? ⟨c.go,L.length*8+7,none⟩=false:=fun W hW=>by
  obtain⟨pc,cc,hT,_⟩:=(h.below hW).tk
  exact⟨hT.c6,(h.below hW).sc.c7,(h.below hW).op.frz _⟩
 replace h:=Hid.mk h
 unfold codT
 rw[<- beqD,<- beqD,<- beqD,<- beqD]
 rcases ch3 (t.off==xt.off) (t.siz==xt.siz) (t.pres==xt.pres) with q1|⟨q1,q2⟩|⟨q1,q2,q3⟩|⟨q1,q2,q3⟩
 all_goals
  go_enter Tryz.func113,Tryz.ntmps113
  go_wp2_with (go_at_call 92;refine cT.mono ?_;rintro _ w1 ⟨rfl,hb⟩;obtain⟨y0,y1,y2⟩:=hY _ hb;clear hY)
  obtain⟨w2,hw2⟩:∃ w2,w2=w1.setCell ⟨c.go,L.length*8+7,none⟩ (.int .i64 t.prim):=⟨_,rfl⟩
  rw[<- hw2]
  have h2:Ct w2 c f L { x with cod:=t.prim } xt t rl dep wh:=by rw[hw2];exact(h.out.below hb).wrote (by decide) rfl rfl
  have hk2:Kb [c.go] w w2:=by rw[hw2];exact(Kb.of_below hb).set (List.mem_singleton.2 rfl) _
  clear hw2 y0 y1 y2 cT
  obtain⟨pc,cc,hT,hU,hcc,kT⟩:=h2.tk
  obtain⟨px,cx,hX,kX⟩:=h2.xk
  have hS:=h2.sc
  have hC:=h2.ck
  have hF:=h2.fm
  have hlg:=h2.lg
  have hlo:=h2.op.lt
  have hlf:=h2.fl
  obtain⟨p,pB,pK,hN,t3,t4,t7,t8,x3,x4,x8,s0⟩:∃ p:World->Prop,(∀ W,p W->Kb [] w2 W) /\
   (∀ W,Kb [] w2 W->p W) /\
   Nonempty (CW p) /\
   (∀ θ:CW p,θ.w.cell? ⟨c.g,c.o+c.i*21+3,none⟩=some (.int .i64 t.off)) /\
   (∀ θ:CW p,θ.w.cell? ⟨c.g,c.o+c.i*21+4,none⟩=some (.int .i64 t.siz)) /\
   (∀ θ:CW p,θ.w.cell? ⟨c.g,c.o+c.i*21+7,none⟩=some (.int .i64 t.len)) /\
   (∀ θ:CW p,θ.w.cell? ⟨c.g,c.o+c.i*21+8,none⟩=some (.int .i64 t.pres)) /\
   (∀ θ:CW p,θ.w.cell? ⟨c.g,c.o+x.at_*21+3,none⟩=some (.int .i64 xt.off)) /\
   (∀ θ:CW p,θ.w.cell? ⟨c.g,c.o+x.at_*21+4,none⟩=some (.int .i64 xt.siz)) /\
   (∀ θ:CW p,θ.w.cell? ⟨c.g,c.o+x.at_*21+8,none⟩=some (.int .i64 xt.pres)) /\
   (∀ θ:CW p,θ.w.cell? ⟨c.go,L.length*8,none⟩=some (.pointer (some ⟨c.g,c.o+x.at_*21,none⟩))) :=
   ⟨Kb [] w2,
   fun _ h=>h,
   fun _ h=>h,
   ⟨⟨_,Kb.refl _ _⟩⟩,
   fun θ=>(θ.h.cell hlg List.not_mem_nil).trans hT.c3,
   fun θ=>(θ.h.cell hlg List.not_mem_nil).trans hT.c4,
   fun θ=>(θ.h.cell hlg List.not_mem_nil).trans hT.c7,
   fun θ=>(θ.h.cell hlg List.not_mem_nil).trans hT.c8,
   fun θ=>(θ.h.cell hlg List.not_mem_nil).trans hX.c3,
   fun θ=>(θ.h.cell hlg List.not_mem_nil).trans hX.c4,
   fun θ=>(θ.h.cell hlg List.not_mem_nil).trans hX.c8,
   fun θ=>(θ.h.cell hlo List.not_mem_nil).trans hS.c0⟩
  clear hT hX hS hC hF hU hcc hlg hlo hlf
  replace h2:=Hid.mk h2
  replace hk2:=Hid.mk hk2
  refine wp_region_lx p (by kernel_rfl) (by kernel_rfl) (fun _ _ d _ _ h=>by cases d<;>exact h) (pK _ (Kb.refl _ _).drew) ?_
  repeat (first|(refine lx_one rfl ?_;(first|go_big_quiet_skip|(go_big_quiet_want;go_big_quiet_op;go_big_quiet_on));refine wpQuiet_nil ?_)|(refine lx_skip (by rfl) ?_;simp only[pts]))
  refine lx_done ?_
  go_wp2_with fail
  go_ret
  exact⟨rb (by simp[*]),h2.out.below (tdr1 (Below.refl _ _)),hk2.out.drew⟩
def memT (x:Sv) (xt t:Tk):Bool:=bet t.off xt.off (xt.off+xt.siz-t.siz)&&(decide (t.siz=0)||decide (x.en<=t.off))
def memX (x:Sv) (t:Tk):Sv:=if t.siz=0 then x else { x with en:=t.off+t.siz }
theorem isMember_any (c:Cf) (f:Fm) (L:List Sv) (x:Sv) (xt t:Tk) (rl:Value) (dep:Nat->Int) (wh:Bool) (w:World) (h:Ct w c f L x xt t rl dep wh) (b1:0<=xt.off/\xt.off<=65535) (b2:0<=xt.siz/\xt.siz<=65535) (b3:0<=t.siz/\t.siz<=65535) :
  Calls Tryz.prog 114 #[.pointer (some ⟨c.B,0,none⟩),.pointer (some ⟨c.g,c.o+c.i*21,none⟩)] w fun r w'=>r = .returned (.bool (memT x xt t))/\Kb [c.go] w w'/\(memT x xt t=true->Ct w' c f L (memX x t) xt t rl dep wh):=by
 have cT:=top_any c.B c.go L.length c.cap w h.ck.c0 h.ln
 have u1:IntKind.i64.wrap (xt.off+xt.siz)=xt.off+xt.siz:=by rw[IntKind.wrap_i64];omega
 have u2:IntKind.i64.wrap (xt.off+xt.siz-t.siz)=xt.off+xt.siz-t.siz:=by rw[IntKind.wrap_i64];omega
 replace h:=Hid.mk h
 obtain⟨q,hq⟩:∃ q,bet t.off xt.off (xt.off+xt.siz-t.siz)=q:=⟨_,rfl⟩
 have u3:q=true->IntKind.i64.wrap (t.off+t.siz)=t.off+t.siz:=fun e=>by
  rw[e] at hq
  have:=betT hq
  rw[IntKind.wrap_i64];omega
 unfold memT memX
 rw[hq]
 rcases(show q=false\/(q=true/\t.siz=0)\/(q=true/\t.siz≠0) from by cases q<;>simp<;>omega) with e0|⟨e0,e1⟩|⟨e0,e1⟩
 ·rw[e0]
  go_enter Tryz.func114,Tryz.ntmps114
  go_wp2_with (go_at_call 92;refine cT.mono ?_;rintro _ w1 ⟨rfl,hb⟩)
  have h1:=h.out.below hb
  obtain⟨pc,cc,hT,hU,hcc,kT⟩:=h1.tk
  obtain⟨px,cx,hX,kX⟩:=h1.xk
  have hS:=h1.sc
  have hC:=h1.ck
  have hF:=h1.fm
  have hlg:=h1.lg
  have hlo:=h1.op.lt
  have hlf:=h1.fl
  obtain⟨p,pB,pK,hN,t3,t4,x3,x4,s0,cN⟩:∃ p:World->Prop,(∀ W,p W->Kb [] w1 W) /\
   (∀ W,Kb [] w1 W->p W) /\
   Nonempty (CW p) /\
   (∀ θ:CW p,θ.w.cell? ⟨c.g,c.o+c.i*21+3,none⟩=some (.int .i64 t.off)) /\
   (∀ θ:CW p,θ.w.cell? ⟨c.g,c.o+c.i*21+4,none⟩=some (.int .i64 t.siz)) /\
   (∀ θ:CW p,θ.w.cell? ⟨c.g,c.o+x.at_*21+3,none⟩=some (.int .i64 xt.off)) /\
   (∀ θ:CW p,θ.w.cell? ⟨c.g,c.o+x.at_*21+4,none⟩=some (.int .i64 xt.siz)) /\
   (∀ θ:CW p,θ.w.cell? ⟨c.go,L.length*8,none⟩=some (.pointer (some ⟨c.g,c.o+x.at_*21,none⟩))) /\
   (∀ W,p W->Calls Tryz.prog 74 #[.int .i64 t.off,.int .i64 xt.off,.int .i64 (xt.off+xt.siz-t.siz)] W fun e w'=>e = .returned (.bool (bet t.off xt.off (xt.off+xt.siz-t.siz)))/\p w') :=
   ⟨Kb [] w1,
   fun _ h=>h,
   fun _ h=>h,
   ⟨⟨_,Kb.refl _ _⟩⟩,
   fun θ=>(θ.h.cell hlg List.not_mem_nil).trans hT.c3,
   fun θ=>(θ.h.cell hlg List.not_mem_nil).trans hT.c4,
   fun θ=>(θ.h.cell hlg List.not_mem_nil).trans hX.c3,
   fun θ=>(θ.h.cell hlg List.not_mem_nil).trans hX.c4,
   fun θ=>(θ.h.cell hlo List.not_mem_nil).trans hS.c0,
   callS (isBetween_any _ _ _)⟩
  clear hT hX hS hC hF hU hcc hlg hlo hlf
  replace h1:=Hid.mk h1
  rw[hq,e0] at cN
  refine wp_region_lp p (by kernel_rfl) (by kernel_rfl) (fun _ _ d _ _ h=>by cases d<;>exact h) (pK _ (Kb.refl _ _).drew) fun W hp=>?_
  repeat (first|(refine lx_one rfl ?_;(first|go_big_quiet_skip|(go_big_quiet_want;go_big_quiet_op;go_big_quiet_on));refine wpQuiet_nil ?_)|(refine lx_p3 ent_isBetween cN hp rfl rfl rfl (by rfl) ?_;intro W hp;simp only[pts])|(refine lx_skip (by rfl) ?_;simp only[pts]))
  refine lx_done ?_
  have hW:Below w1.heap.size w1 W:=Kb0 (pB _ hp)
  go_wp2_with fail
  all_goals
   go_ret
   exact⟨rfl,Kb.of_below (hb.trans (hW.mono hb.size))⟩
 ·have d1:(t.siz==0)=true:=beq_iff_eq.2 e1
  rw[e0,decide_eq_true e1,if_pos e1]
  clear e1
  go_enter Tryz.func114,Tryz.ntmps114
  go_wp2_with (go_at_call 92;refine cT.mono ?_;rintro _ w1 ⟨rfl,hb⟩)
  have h1:=h.out.below hb
  obtain⟨pc,cc,hT,hU,hcc,kT⟩:=h1.tk
  obtain⟨px,cx,hX,kX⟩:=h1.xk
  have hS:=h1.sc
  have hC:=h1.ck
  have hF:=h1.fm
  have hlg:=h1.lg
  have hlo:=h1.op.lt
  have hlf:=h1.fl
  obtain⟨p,pB,pK,hN,t3,t4,x3,x4,s0,cN⟩:∃ p:World->Prop,(∀ W,p W->Kb [] w1 W) /\
   (∀ W,Kb [] w1 W->p W) /\
   Nonempty (CW p) /\
   (∀ θ:CW p,θ.w.cell? ⟨c.g,c.o+c.i*21+3,none⟩=some (.int .i64 t.off)) /\
   (∀ θ:CW p,θ.w.cell? ⟨c.g,c.o+c.i*21+4,none⟩=some (.int .i64 t.siz)) /\
   (∀ θ:CW p,θ.w.cell? ⟨c.g,c.o+x.at_*21+3,none⟩=some (.int .i64 xt.off)) /\
   (∀ θ:CW p,θ.w.cell? ⟨c.g,c.o+x.at_*21+4,none⟩=some (.int .i64 xt.siz)) /\
   (∀ θ:CW p,θ.w.cell? ⟨c.go,L.length*8,none⟩=some (.pointer (some ⟨c.g,c.o+x.at_*21,none⟩))) /\
   (∀ W,p W->Calls Tryz.prog 74 #[.int .i64 t.off,.int .i64 xt.off,.int .i64 (xt.off+xt.siz-t.siz)] W fun e w'=>e = .returned (.bool (bet t.off xt.off (xt.off+xt.siz-t.siz)))/\p w') :=
   ⟨Kb [] w1,
   fun _ h=>h,
   fun _ h=>h,
   ⟨⟨_,Kb.refl _ _⟩⟩,
   fun θ=>(θ.h.cell hlg List.not_mem_nil).trans hT.c3,
   fun θ=>(θ.h.cell hlg List.not_mem_nil).trans hT.c4,
   fun θ=>(θ.h.cell hlg List.not_mem_nil).trans hX.c3,
   fun θ=>(θ.h.cell hlg List.not_mem_nil).trans hX.c4,
   fun θ=>(θ.h.cell hlo List.not_mem_nil).trans hS.c0,
   callS (isBetween_any _ _ _)⟩
  clear hT hX hS hC hF hU hcc hlg hlo hlf
  replace h1:=Hid.mk h1
  rw[hq,e0] at cN
  refine wp_region_lp p (by kernel_rfl) (by kernel_rfl) (fun _ _ d _ _ h=>by cases d<;>exact h) (pK _ (Kb.refl _ _).drew) fun W hp=>?_
  repeat (first|(refine lx_one rfl ?_;(first|go_big_quiet_skip|(go_big_quiet_want;go_big_quiet_op;go_big_quiet_on));refine wpQuiet_nil ?_)|(refine lx_p3 ent_isBetween cN hp rfl rfl rfl (by rfl) ?_;intro W hp;simp only[pts])|(refine lx_skip (by rfl) ?_;simp only[pts]))
  refine lx_done ?_
  have hW:Below w1.heap.size w1 W:=Kb0 (pB _ hp)
  have y4:W.cell? ⟨c.g,c.o+c.i*21+4,none⟩=some (.int .i64 t.siz):=t4 ⟨W,hp⟩
  go_wp2_with fail
  go_ret
  exact⟨rfl,Kb.of_below (hb.trans (hW.mono hb.size)),fun _=>h1.out.below hW⟩
 ·have d1:(t.siz==0)=false:=beq_eq_false_iff_ne.2 e1
  rw[e0,decide_eq_false e1,if_neg e1]
  clear e1
  go_enter Tryz.func114,Tryz.ntmps114
  go_wp2_with (go_at_call 92;refine cT.mono ?_;rintro _ w1 ⟨rfl,hb⟩)
  have h1:=h.out.below hb
  obtain⟨pc,cc,hT,hU,hcc,kT⟩:=h1.tk
  obtain⟨px,cx,hX,kX⟩:=h1.xk
  have hS:=h1.sc
  have hC:=h1.ck
  have hF:=h1.fm
  have hlg:=h1.lg
  have hlo:=h1.op.lt
  have hlf:=h1.fl
  obtain⟨p,pB,pK,hN,t3,t4,x3,x4,s0,cN⟩:∃ p:World->Prop,(∀ W,p W->Kb [] w1 W) /\
   (∀ W,Kb [] w1 W->p W) /\
   Nonempty (CW p) /\
   (∀ θ:CW p,θ.w.cell? ⟨c.g,c.o+c.i*21+3,none⟩=some (.int .i64 t.off)) /\
   (∀ θ:CW p,θ.w.cell? ⟨c.g,c.o+c.i*21+4,none⟩=some (.int .i64 t.siz)) /\
   (∀ θ:CW p,θ.w.cell? ⟨c.g,c.o+x.at_*21+3,none⟩=some (.int .i64 xt.off)) /\
   (∀ θ:CW p,θ.w.cell? ⟨c.g,c.o+x.at_*21+4,none⟩=some (.int .i64 xt.siz)) /\
   (∀ θ:CW p,θ.w.cell? ⟨c.go,L.length*8,none⟩=some (.pointer (some ⟨c.g,c.o+x.at_*21,none⟩))) /\
   (∀ W,p W->Calls Tryz.prog 74 #[.int .i64 t.off,.int .i64 xt.off,.int .i64 (xt.off+xt.siz-t.siz)] W fun e w'=>e = .returned (.bool (bet t.off xt.off (xt.off+xt.siz-t.siz)))/\p w') :=
   ⟨Kb [] w1,
   fun _ h=>h,
   fun _ h=>h,
   ⟨⟨_,Kb.refl _ _⟩⟩,
   fun θ=>(θ.h.cell hlg List.not_mem_nil).trans hT.c3,
   fun θ=>(θ.h.cell hlg List.not_mem_nil).trans hT.c4,
   fun θ=>(θ.h.cell hlg List.not_mem_nil).trans hX.c3,
   fun θ=>(θ.h.cell hlg List.not_mem_nil).trans hX.c4,
   fun θ=>(θ.h.cell hlo List.not_mem_nil).trans hS.c0,
   callS (isBetween_any _ _ _)⟩
  clear hT hX hS hC hF hU hcc hlg hlo hlf
  replace h1:=Hid.mk h1
  rw[hq,e0] at cN
  refine wp_region_lp p (by kernel_rfl) (by kernel_rfl) (fun _ _ d _ _ h=>by cases d<;>exact h) (pK _ (Kb.refl _ _).drew) fun W hp=>?_
  repeat (first|(refine lx_one rfl ?_;(first|go_big_quiet_skip|(go_big_quiet_want;go_big_quiet_op;go_big_quiet_on));refine wpQuiet_nil ?_)|(refine lx_p3 ent_isBetween cN hp rfl rfl rfl (by rfl) ?_;intro W hp;simp only[pts])|(refine lx_skip (by rfl) ?_;simp only[pts]))
  refine lx_done ?_
  have hW:Below w1.heap.size w1 W:=Kb0 (pB _ hp)
  have y4:W.cell? ⟨c.g,c.o+c.i*21+4,none⟩=some (.int .i64 t.siz):=t4 ⟨W,hp⟩
  have h2:=h1.out.below hW
  have z6:=h2.sc.c6
  have zf:=h2.op.frz (L.length*8+6)
  have z6:=z6
  clear hN t3 t4 x3 x4 s0 cN pB pK hp
  have u3:=u3 e0
  obtain⟨w3,hw3⟩:∃ w3,w3=W:=⟨_,rfl⟩
  subst hw3
  go_wp2_with fail
  obtain⟨pc,cc,hT,hU,hcc,kT⟩:=h2.tk
  obtain⟨px,cx,hX,kX⟩:=h2.xk
  have hS:=h2.sc
  have hC:=h2.ck
  have hF:=h2.fm
  have hlg:=h2.lg
  have hlo:=h2.op.lt
  have hlf:=h2.fl
  have ho:c.g≠c.go:=by have:=h2.ap.g;have:=h2.ap.go;omega
  obtain⟨p,pB,pK,hN,t3,t4⟩:∃ p:World->Prop,(∀ W,p W->Kb [c.go] w3 W) /\
   (∀ W,Kb [c.go] w3 W->p W) /\
   Nonempty (CW p) /\
   (∀ θ:CW p,θ.w.cell? ⟨c.g,c.o+c.i*21+3,none⟩=some (.int .i64 t.off)) /\
   (∀ θ:CW p,θ.w.cell? ⟨c.g,c.o+c.i*21+4,none⟩=some (.int .i64 t.siz)) :=
   ⟨Kb [c.go] w3,
   fun _ h=>h,
   fun _ h=>h,
   ⟨⟨_,Kb.refl _ _⟩⟩,
   fun θ=>(θ.h.cell hlg (notin1 ho)).trans hT.c3,
   fun θ=>(θ.h.cell hlg (notin1 ho)).trans hT.c4⟩
  clear hT hX hS hC hF hU hcc hlg hlo hlf ho
  replace h2:=Hid.mk h2
  refine wp_region_lx p (by kernel_rfl) (by kernel_rfl) (fun _ _ d _ _ h=>by cases d<;>exact h) (pK _ (Kb.refl _ _).drew) ?_
  repeat (first|(refine lx_one rfl ?_;(first|go_big_quiet_skip|(go_big_quiet_want;go_big_quiet_op;go_big_quiet_on));refine wpQuiet_nil ?_)|(refine lx_skip (by rfl) ?_;simp only[pts]))
  refine lx_act (by rfl) (by rfl) ?_
  intro K hK
  go_simp
  refine hK _ _ ⟨⟨_,pK _ ((Kb.refl _ _).set (List.mem_singleton.2 rfl) _).drew⟩,rfl⟩ ?_
  clear hK K
  try simp only[pts]
  have h3:Ct (w3.setCell ⟨c.go,L.length*8+6,none⟩ (.int .i64 (t.off+t.siz))).drew c f L { x with en:=t.off+t.siz } xt t rl dep wh:=(h2.out.wrote (x':={ x with en:=t.off+t.siz }) (j:=6) (v:=.int .i64 (t.off+t.siz)) (by decide) rfl rfl).below (tdr1 (Below.refl _ _))
  have hk3:Kb [c.go] w (w3.setCell ⟨c.go,L.length*8+6,none⟩ (.int .i64 (t.off+t.siz))).drew:=((Kb.of_below (hb.trans (hW.mono hb.size))).set (List.mem_singleton.2 rfl) _).drew
  generalize (w3.setCell ⟨c.go,L.length*8+6,none⟩ (.int .i64 (t.off+t.siz))).drew=w4 at h3 hk3 ⊢
  refine lx_done ?_
  obtain⟨_,_,hT3,_⟩:=h3.tk
  have y3:=hT3.c3
  clear hT3
  replace h3:=Hid.mk h3
  go_wp2_with fail
  go_ret
  exact⟨rb (by simp),hk3,fun _=>h3.out⟩
structure Lft (E:List Nat) (w w':World) (b:Bool) (C:Prop):Prop where
 kb:Kb E w w'
 ct:b=true->C
def plcT (x:Sv) (xt t:Tk):Bool:=bet t.siz 0 65535&&bet t.pres 0 2&&(if xt.op=2 then decide (t.off=0) else if xt.op=10 then codT xt t&&decide (t.prim≠9)&&decide (t.prim≠10) else if xt.op=12 then codT xt t&&bet t.prim 5 8 else memT x xt t)
def plcX (x:Sv) (xt t:Tk):Sv:=if xt.op=2 then x else if xt.op=10\/xt.op=12 then { x with cod:=t.prim } else memX x t
theorem isPlaced_any (c:Cf) (f:Fm) (L:List Sv) (x:Sv) (xt t:Tk) (rl:Value) (dep:Nat->Int) (wh:Bool) (w:World) (h:Ct w c f L x xt t rl dep wh) (b0:xt.op=2\/xt.op=8\/xt.op=10\/xt.op=12) (b1:0<=xt.off/\xt.off<=65535) (b2:0<=xt.siz/\xt.siz<=65535) :
  Calls Tryz.prog 82 #[.pointer (some ⟨c.B,0,none⟩),.pointer (some ⟨c.g,c.o+c.i*21,none⟩)] w fun r w'=>r = .returned (.bool (plcT x xt t))/\Lft [c.go] w w' (plcT x xt t) (Ct w' c f L (plcX x xt t) xt t rl dep wh):=by
 have cT:=top_any c.B c.go L.length c.cap w h.ck.c0 h.ln
 have cC:=fun W (hW:Below w.heap.size w W)=>isCoding_any c f L x xt t rl dep wh W (h.below hW)
 have cM:=fun W (hW:Below w.heap.size w W) b3=>isMember_any c f L x xt t rl dep wh W (h.below hW) b1 b2 b3
 have hY:∀ W,Below w.heap.size w W->W.cell? ⟨c.go,L.length*8,none⟩=some (.pointer (some ⟨c.g,c.o+x.at_*21,none⟩))/\W.cell? ⟨c.g,c.o+x.at_*21,none⟩=some (.int .i64 xt.op)/\W.cell? ⟨c.g,c.o+c.i*21+3,none⟩=some (.int .i64 t.off):=fun W hW=>by
  obtain⟨pc,cc,hT,_⟩:=(h.below hW).tk
  obtain⟨px,cx,hX,_⟩:=(h.below hW).xk
  exact⟨(h.below hW).sc.c0,hX.c0,hT.c3⟩
 have hZ:∀ W,Ct W c f L { x with cod:=t.prim } xt t rl dep wh->W.cell? ⟨c.g,c.o+c.i*21+6,none⟩=some (.int .i64 t.prim):=fun W hW=>by
  obtain⟨pc,cc,hT,_⟩:=hW.tk
  exact hT.c6
 obtain⟨pc,cc,hT,_⟩:=h.tk
 have t4:=hT.c4
 have t8:=hT.c8
 clear hT
 replace h:=Hid.mk h
 have cB1:=isBetween_any t.siz 0 65535
 have cB2:=isBetween_any t.pres 0 2
 have cB3:=isBetween_any t.prim 5 8
 unfold plcT plcX
 obtain⟨q1,hq1⟩:∃ q,bet t.siz 0 65535=q:=⟨_,rfl⟩
 obtain⟨q2,hq2⟩:∃ q,bet t.pres 0 2=q:=⟨_,rfl⟩
 have b3:q1=true->0<=t.siz/\t.siz<=65535:=fun e=>betT (hq1.trans e)
 rw[hq1] at cB1 ⊢
 rw[hq2] at cB2 ⊢
 clear hq1 hq2
 rcases ch2 q1 q2 with e1|⟨e1,e2⟩|⟨e1,e2⟩
 ·subst e1
  go_enter Tryz.func82,Tryz.ntmps82
  go_wp2_with (first|(go_at_call_of 74 (Value.int .i64 t.siz);refine(cB1 _).mono ?_;rintro _ _ ⟨rfl,rfl⟩))
  all_goals
   go_ret
   exact⟨rfl,Kb.refl _ _,fun e=>by simp at e⟩
 ·subst e1 e2
  go_enter Tryz.func82,Tryz.ntmps82
  go_wp2_with (first|(go_at_call_of 74 (Value.int .i64 t.siz);refine(cB1 _).mono ?_;rintro _ _ ⟨rfl,rfl⟩)|(go_at_call_of 74 (Value.int .i64 t.pres);refine(cB2 _).mono ?_;rintro _ _ ⟨rfl,rfl⟩))
  all_goals
   go_ret
   exact⟨rfl,Kb.refl _ _,fun e=>by simp at e⟩
 ·subst e1 e2
  have b4:=b3 rfl
  clear b3
  rcases b0 with e|e|e|e
  ·have d2:(xt.op==2)=true:=beq_iff_eq.2 e
   rw[if_pos e,if_pos e,<- beqD]
   clear e
   go_enter Tryz.func82,Tryz.ntmps82
   go_wp2_with (first|(go_at_call_of 74 (Value.int .i64 t.siz);refine(cB1 _).mono ?_;rintro _ _ ⟨rfl,rfl⟩)|(go_at_call_of 74 (Value.int .i64 t.pres);refine(cB2 _).mono ?_;rintro _ _ ⟨rfl,rfl⟩)|(go_at_call 92;refine cT.mono ?_;rintro _ w1 ⟨rfl,hb⟩;obtain⟨y0,y1,y3⟩:=hY _ hb;clear hY))
   all_goals
    go_ret
    exact⟨rb (by simp),Kb.of_below hb,fun _=>h.out.below hb⟩
  ·have d2:(xt.op==2)=false:=beqN (by omega)
   have d10:(xt.op==10)=false:=beqN (by omega)
   have d12:(xt.op==12)=false:=beqN (by omega)
   rw[if_neg (by omega),if_neg (by omega),if_neg (by omega),if_neg (by omega),if_neg (by omega)]
   clear e
   go_enter Tryz.func82,Tryz.ntmps82
   go_wp2_with (first|(go_at_call_of 74 (Value.int .i64 t.siz);refine(cB1 _).mono ?_;rintro _ _ ⟨rfl,rfl⟩)|(go_at_call_of 74 (Value.int .i64 t.pres);refine(cB2 _).mono ?_;rintro _ _ ⟨rfl,rfl⟩)|(go_at_call 92;refine cT.mono ?_;rintro _ w1 ⟨rfl,hb⟩;obtain⟨y0,y1,y3⟩:=hY _ hb;clear hY)|(go_at_call 114;refine(cM _ hb b4).mono ?_;rintro _ w2 ⟨rfl,hk2,h2⟩))
   all_goals
    go_ret
    exact⟨rb (by simp),(Kb.of_below hb).trans hk2,fun e=>h2 (by simpa using e)⟩
  ·have d2:(xt.op==2)=false:=beqN (by omega)
   have d10:(xt.op==10)=true:=beq_iff_eq.2 e
   rw[if_neg (by omega),if_pos e,if_neg (by omega),if_pos (.inl e)]
   clear e
   obtain⟨q3,hq3⟩:∃ q,codT xt t=q:=⟨_,rfl⟩
   rw[hq3] at cC ⊢
   clear hq3
   rcases Bool.eq_false_or_eq_true q3 with e3|e3
   ·subst e3
    by_cases e9:t.prim=9
    ·have d9:(t.prim==9)=true:=beq_iff_eq.2 e9
     replace e9:=Hid.mk e9
     go_enter Tryz.func82,Tryz.ntmps82
     go_wp2_with (first|(go_at_call_of 74 (Value.int .i64 t.siz);refine(cB1 _).mono ?_;rintro _ _ ⟨rfl,rfl⟩)|(go_at_call_of 74 (Value.int .i64 t.pres);refine(cB2 _).mono ?_;rintro _ _ ⟨rfl,rfl⟩)|(go_at_call 92;refine cT.mono ?_;rintro _ w1 ⟨rfl,hb⟩;obtain⟨y0,y1,y3⟩:=hY _ hb;clear hY)|(go_at_call 113;refine(cC _ hb).mono ?_;rintro _ w2 ⟨rfl,h2,hk2⟩;have y6:=hZ _ h2;clear hZ))
     all_goals
      go_ret
      exact⟨rb (by simp[e9.out]),(Kb.of_below hb).trans hk2,fun e=>by simp[e9.out] at e⟩
    ·have d9:(t.prim==9)=false:=beqN e9
     have d9n:(t.prim != 9)=true:=bne_iff_ne.2 e9
     by_cases e10:t.prim=10
     ·have d10p:(t.prim==10)=true:=beq_iff_eq.2 e10
      replace e9:=Hid.mk e9
      replace e10:=Hid.mk e10
      go_enter Tryz.func82,Tryz.ntmps82
      go_wp2_with (first|(go_at_call_of 74 (Value.int .i64 t.siz);refine(cB1 _).mono ?_;rintro _ _ ⟨rfl,rfl⟩)|(go_at_call_of 74 (Value.int .i64 t.pres);refine(cB2 _).mono ?_;rintro _ _ ⟨rfl,rfl⟩)|(go_at_call 92;refine cT.mono ?_;rintro _ w1 ⟨rfl,hb⟩;obtain⟨y0,y1,y3⟩:=hY _ hb;clear hY)|(go_at_call 113;refine(cC _ hb).mono ?_;rintro _ w2 ⟨rfl,h2,hk2⟩;have y6:=hZ _ h2;clear hZ))
      all_goals
       go_ret
       exact⟨rb (by simp[e10.out]),(Kb.of_below hb).trans hk2,fun e=>by simp[e10.out] at e⟩
     ·have d10p:(t.prim==10)=false:=beqN e10
      have d10n:(t.prim != 10)=true:=bne_iff_ne.2 e10
      replace e9:=Hid.mk e9
      replace e10:=Hid.mk e10
      go_enter Tryz.func82,Tryz.ntmps82
      go_wp2_with (first|(go_at_call_of 74 (Value.int .i64 t.siz);refine(cB1 _).mono ?_;rintro _ _ ⟨rfl,rfl⟩)|(go_at_call_of 74 (Value.int .i64 t.pres);refine(cB2 _).mono ?_;rintro _ _ ⟨rfl,rfl⟩)|(go_at_call 92;refine cT.mono ?_;rintro _ w1 ⟨rfl,hb⟩;obtain⟨y0,y1,y3⟩:=hY _ hb;clear hY)|(go_at_call 113;refine(cC _ hb).mono ?_;rintro _ w2 ⟨rfl,h2,hk2⟩;have y6:=hZ _ h2;clear hZ))
      all_goals
       go_ret
       exact⟨rb (by simp[e9.out,e10.out]),(Kb.of_below hb).trans hk2,fun _=>h2⟩
   ·subst e3
    go_enter Tryz.func82,Tryz.ntmps82
    go_wp2_with (first|(go_at_call_of 74 (Value.int .i64 t.siz);refine(cB1 _).mono ?_;rintro _ _ ⟨rfl,rfl⟩)|(go_at_call_of 74 (Value.int .i64 t.pres);refine(cB2 _).mono ?_;rintro _ _ ⟨rfl,rfl⟩)|(go_at_call 92;refine cT.mono ?_;rintro _ w1 ⟨rfl,hb⟩;obtain⟨y0,y1,y3⟩:=hY _ hb;clear hY)|(go_at_call 113;refine(cC _ hb).mono ?_;rintro _ w2 ⟨rfl,h2,hk2⟩;have y6:=hZ _ h2;clear hZ))
    all_goals
     go_ret
     exact⟨rb (by simp),(Kb.of_below hb).trans hk2,fun e=>by simp at e⟩
  ·have d2:(xt.op==2)=false:=beqN (by omega)
   have d10:(xt.op==10)=false:=beqN (by omega)
   have d12:(xt.op==12)=true:=beq_iff_eq.2 e
   rw[if_neg (by omega),if_neg (by omega),if_pos e,if_neg (by omega),if_pos (.inr e)]
   clear e
   obtain⟨q3,hq3⟩:∃ q,codT xt t=q:=⟨_,rfl⟩
   rw[hq3] at cC ⊢
   clear hq3
   rcases Bool.eq_false_or_eq_true q3 with e3|e3
   ·subst e3
    go_enter Tryz.func82,Tryz.ntmps82
    go_wp2_with (first|(go_at_call_of 74 (Value.int .i64 t.siz);refine(cB1 _).mono ?_;rintro _ _ ⟨rfl,rfl⟩)|(go_at_call_of 74 (Value.int .i64 t.pres);refine(cB2 _).mono ?_;rintro _ _ ⟨rfl,rfl⟩)|(go_at_call 92;refine cT.mono ?_;rintro _ w1 ⟨rfl,hb⟩;obtain⟨y0,y1,y3⟩:=hY _ hb;clear hY)|(go_at_call 113;refine(cC _ hb).mono ?_;rintro _ w2 ⟨rfl,h2,hk2⟩;have y6:=hZ _ h2;clear hZ)|(go_at_call_of 74 (Value.int .i64 t.prim);refine(cB3 _).mono ?_;rintro _ _ ⟨rfl,rfl⟩))
    all_goals
     go_ret
     exact⟨rb (by simp),(Kb.of_below hb).trans hk2,fun _=>h2⟩
   ·subst e3
    go_enter Tryz.func82,Tryz.ntmps82
    go_wp2_with (first|(go_at_call_of 74 (Value.int .i64 t.siz);refine(cB1 _).mono ?_;rintro _ _ ⟨rfl,rfl⟩)|(go_at_call_of 74 (Value.int .i64 t.pres);refine(cB2 _).mono ?_;rintro _ _ ⟨rfl,rfl⟩)|(go_at_call 92;refine cT.mono ?_;rintro _ w1 ⟨rfl,hb⟩;obtain⟨y0,y1,y3⟩:=hY _ hb;clear hY)|(go_at_call 113;refine(cC _ hb).mono ?_;rintro _ w2 ⟨rfl,h2,hk2⟩;have y6:=hZ _ h2;clear hZ))
    all_goals
     go_ret
     exact⟨rb (by simp),(Kb.of_below hb).trans hk2,fun e=>by simp at e⟩
end Go.Proofs.YtjlbcdnkglaheaaGreatDoor

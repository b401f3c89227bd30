import Derived.Test.YtjlbcdnkglaheaaGreatDoorK12
namespace Go.Proofs.YtjlbcdnkglaheaaGreatDoor
set_option maxRecDepth 1000000
set_option maxHeartbeats 16000000
open Go.ChangeShapes Go.WideShapes Go.ChangeAt Go.RowKit Go.Shelf Go.Maps
def ptCn (tk:Tk) (v:Value) (n:Int):List Value:=tkC tk none 0++[v,.int .i64 n]
abbrev eptO (tk:Tk) (v:Value) (n:Int):Obj:=.cells (ptCn tk v n).toArray 89
theorem bd_tok (t:Tk) (w:World):(Instr.build 78 #[(0,.int .i64 t.op),(4,.int .i64 t.siz),(14,.int .i64 t.blk),(15,.int .i64 t.full),(16,spV t.a),(17,spV t.b)]).run Tryz.prog w = .ok (tkV (tkG t) none 0) w:=by kernel_rfl
theorem bd_part (t:Tk) (w:World):(Instr.build 89 #[(0,tkV t none 0)]).run Tryz.prog w = .ok (.agg (ptCn t (.slice none 0 0) 0).toArray) w:=by kernel_rfl
theorem bd_part0 (w:World):(Instr.build 89 #[]).run Tryz.prog w = .ok (.agg (ptCn tk0 (.slice none 0 0) 0).toArray) w:=by kernel_rfl
theorem bx_part (t:Tk) (w:World):(Instr.box 89 (.agg (ptCn t (.slice none 0 0) 0).toArray)).run Tryz.prog w = .ok (.pointer (some ⟨w.heap.size,0,none⟩)) (w.alloc (eptO t (.slice none 0 0) 0)):=by
 simp only[Instr.box,newVar,newRow,run_newObj_alloc,Sem.run_bind,Sem.run_pure,Result.andThen_ok]
 rfl
theorem infoLf:(Tryz.prog.info? 144).map (fun i=>(i.zero,i.size,i.bytes))=some (some (.agg #[.int .i64 0,.int .i64 0,.int .i64 0]),3,24):=by kernel_rfl
theorem wpList_bd {P:Program} {ops:Array Oper} {Q:Exit->Act->World->Prop} {a:Act} {w:World} {rest:List Oper} {o:Oper} (t:TypeId) (xs:Array (Nat×Operand)) (ho:o.op = .build t xs) (hw:Region.wanted o (yielded ops a.tmps)=true) (ys:Array (Nat×Value)) (v:Value)
  (hx:(xs.map fun (i,x)=>(i,a.eval x))=ys) (hr:(Instr.build t ys).run P w = .ok v w) (h:wpList P ops Q rest (a.put o.dst v) w):wpList P ops Q (o::rest) a w:=by
 refine wpList_step fun K hK=>?_
 rw[if_pos hw]
 unfold Oper.wp execOp
 simp only[ho,hx,hr,Sem.run_bind,Result.andThen_ok]
 exact hK _ _ h
theorem wpList_bx {P:Program} {ops:Array Oper} {Q:Exit->Act->World->Prop} {a:Act} {w w':World} {rest:List Oper} {o:Oper} (t:TypeId) (x:Operand) (ho:o.op = .box t x) (hw:Region.wanted o (yielded ops a.tmps)=true) (y v:Value)
  (hx:a.eval x=y) (hr:(Instr.box t y).run P w = .ok v w') (h:wpList P ops Q rest (a.put o.dst v) w'):wpList P ops Q (o::rest) a w:=by
 refine wpList_step fun K hK=>?_
 rw[if_pos hw]
 unfold Oper.wp execOp
 simp only[ho,hx,hr,Sem.run_bind,Result.andThen_ok]
 exact hK _ _ h
theorem eset_at {W:World} {h i:Nat} {cs:Array Value} {ty:TypeId} (h1:W.heap[h]?=some (.cells cs ty)) (v:Value):(W.setCell ⟨h,i,none⟩ v).heap[h]?=some (.cells (cs.setIfInBounds i v) ty):=by
 show (W.heap.modify h _)[h]?=_
 rw[Array.getElem?_modify,if_pos rfl,h1]
 rfl
theorem eset_off {W:World} {h i k:Nat} {v:Value} (hk:k≠h):(W.setCell ⟨h,i,none⟩ v).heap[k]?=W.heap[k]?:=by
 show (W.heap.modify h _)[k]?=_
 rw[Array.getElem?_modify,if_neg (Ne.symm hk)]
theorem efrz {W:World} {h i:Nat} {cs:Array Value} {ty:TypeId} (h1:W.heap[h]?=some (.cells cs ty)):W.frozen? ⟨h,i,none⟩=false:=by simp[World.frozen?,h1]
theorem lf_ap {W:World} {base:Nat} {v:Value} {ls:List Lf} (x:Lf) (h:W.ownsRow base 144 3 v ls.length (lfCs ls)) (hl:ls.length+1<=1000000000000) (hb:base<=W.heap.size) :
  ∃ v' w',(∀ ty,(Builtin.append_ #[87,87] ty #[v,.slice (some ⟨W.heap.size,0,none⟩) 1 1]).run Tryz.prog (W.alloc (.cells #[.int .i64 x.p,.int .i64 x.o,.int .i64 x.n] 144)) = .ok v' w')/\(w'.ownsRow base 144 3 v' (ls++[x]).length (lfCs (ls++[x]))/\Below base W w'/\(∀ j,j<W.heap.size->v.ownBlock≠some j->w'.heap[j]?=W.heap[j]?)/\∀ k,v'.ownBlock=some k->v.ownBlock=some k\/W.heap.size<=k):=by
 obtain⟨v',w',h1,h2,h3⟩:=ap_genP (W:=W) Tryz.underlying87 infoLf rfl (by decide) h (lfC x) rfl (by intro u hu;simp only[lfC,List.mem_cons,List.not_mem_nil,or_false] at hu;rcases hu with rfl|rfl|rfl<;>rfl) (by omega) (by omega) hb
 refine⟨v',w',h1,?_,h3⟩
 rw[List.length_append,lfCs_app]
 exact h2
structure Pw (l:List Tk) (t:Tk) (i:Nat) (w:World) (pc:Option Addr) (cc bp k:Nat) (v:Value) (W:World):Prop where
 t0:W.heap[w.heap.size]?=some (tkO t pc cc)
 pb:W.heap[bp]?=some (eptO tk0 v (wdsL (lvsF l t i k)))
 ow:W.ownsRow (bp+1) 144 3 v (lvsF l t i k).length (lfCs (lvsF l t i k))
 be:Below w.heap.size w W
 bp:w.heap.size<bp
theorem st_lf {W:World} {b i:Nat} {v:Value} {p:Option Addr} {n k:Nat} (h:W.cell? ⟨b,i,none⟩=some v) (hf:W.frozen? ⟨b,i,none⟩=false):(Instr.storeAt 87 (.pointer (some ⟨b,i,none⟩)) (.slice p n k)).run Tryz.prog W = .ok () (W.setCell ⟨b,i,none⟩ (.slice p n k)):=by
 simp[go_sem,h,hf]
theorem st_in {W:World} {b i:Nat} {v:Value} {n:Int} (h:W.cell? ⟨b,i,none⟩=some v) (hf:W.frozen? ⟨b,i,none⟩=false):(Instr.storeAt 3 (.pointer (some ⟨b,i,none⟩)) (.int .i64 n)).run Tryz.prog W = .ok () (W.setCell ⟨b,i,none⟩ (.int .i64 n)):=by
 simp[go_sem,h,hf]
theorem partAt_no (l:List Tk) (i:Nat) (t:Tk) (ht:l[i]?=some t) (h2:t.op≠2) (pp:Option Addr) (cp:Nat) (w:World) (tl:TkL w pp w.heap.size l) :
  Calls Tryz.prog 55 #[.slice pp l.length cp,.int .i64 (i:Int)] w fun r w'=>∃ g,r = .returned (.pointer (some ⟨g,0,none⟩))/\PartC w' w.heap.size w'.heap.size g (ptT t) (ptL l i t)/\Below w.heap.size w w':=by
 obtain⟨g,o,pc,cc,rfl,hg,hT,_,_,hO⟩:=tl.at ht
 have hil:(i:Int)<(l.length:Int):=by have:=(List.getElem?_eq_some_iff.1 ht).1;omega
 have lT:Hid _:=⟨hT.load⟩
 have sT:Hid _:=⟨fun z hz=>st_new w z hz t pc cc⟩
 have c2:(t.op != 2)=true:=by simp[h2]
 have e1:Hid (ptT t=tkG t):=⟨by unfold ptT;rw[if_neg h2]⟩
 have e2:Hid (ptL l i t=[]):=⟨by unfold ptL;rw[if_neg h2]⟩
 have k:=tk_of (thnK w (tkO t pc cc))
 have k0:=k.c0
 have k4:=k.c4
 have k14:=k.c14
 have k15:=k.c15
 have k16:=k.c16
 have k17:=k.c17
 have k18:=k.c18
 have k19:=k.c19
 simp only[Nat.zero_add] at k0 k4 k14 k15 k16 k17 k18 k19
 have hB1:Hid _:=⟨nbel w (tkO t pc cc)⟩
 have bT:Hid _:=⟨fun W=>bd_tok t W⟩
 have bP:Hid _:=⟨fun W=>bd_part (tkG t) W⟩
 have bX:Hid _:=⟨fun W=>bx_part (tkG t) W⟩
 clear hT tl hO k h2
 go_enter Tryz.func55,Tryz.ntmps55
 go_upto_region 2 with (first
  | (guard_target =~ wpList _ _ _ (Oper.mk _ (Op.load 78 _) _ _ _ _::_) _ _;go_must (refine wpList_ld 78 _ rfl rfl _ _ rfl lT.out ?_);simp only[pts])
  | (guard_target =~ wpList _ _ _ (Oper.mk _ (Op.store 78 _ _) _ _ _ _::_) _ _;go_must (refine wpList_st 78 _ _ rfl rfl _ _ rfl rfl (sT.out _ rfl) ?_);simp only[pts]))
 have hsz:(w.alloc (tkO t pc cc)).heap.size=w.heap.size+1:=World.size_alloc _ _
 generalize hW1:w.alloc (tkO t pc cc)=W1 at *
 go_wp2_with (first
  | (guard_target =~ wpList _ _ _ (Oper.mk _ (Op.build 78 _) _ _ _ _::_) _ _;go_must (refine wpList_bd 78 _ rfl rfl _ _ (by simp only[List.map_toArray,List.map_cons,List.map_nil];rfl) (bT.out W1) ?_);simp only[pts])
  | (guard_target =~ wpList _ _ _ (Oper.mk _ (Op.build 89 _) _ _ _ _::_) _ _;go_must (refine wpList_bd 89 _ rfl rfl _ _ (by simp only[List.map_toArray,List.map_cons,List.map_nil];rfl) (bP.out W1) ?_);simp only[pts])
  | (guard_target =~ wpList _ _ _ (Oper.mk _ (Op.box 89 _) _ _ _ _::_) _ _;go_must (refine wpList_bx 89 _ rfl rfl _ _ rfl (bX.out W1) ?_);simp only[pts]))
 go_ret
 refine⟨_,rfl,?_,hB1.out.trans ((nbel W1 _).mono hB1.out.size)⟩
 rw[e1.out,e2.out]
 have hs2:(W1.alloc (eptO (tkG t) (.slice none 0 0) 0)).heap.size=W1.heap.size+1:=World.size_alloc _ _
 exact⟨by omega,by omega,.slice none 0 0,thnK _ _,World.ownsRow_nil _ _ _ _,fun r hr=>by cases hr⟩
theorem oneL_yes {l:List Tk} {t u:Tk} {k:Nat} (hu:l[k]?=some u) (h:lvE u=true):oneL l t k=[lfE t u]:=by unfold oneL;rw[hu];simp[h]
theorem oneL_no {l:List Tk} {t u:Tk} {k:Nat} (hu:l[k]?=some u) (h:lvE u=false):oneL l t k=[]:=by unfold oneL;rw[hu];simp[h]
structure Pr (t u:Tk) (w:World) (pc pu:Option Addr) (cc cu q bp:Nat) (v:Value) (n:Int) (W:World):Prop where
 t0:W.heap[w.heap.size]?=some (tkO t pc cc)
 q0:W.heap[q]?=some (tkO u pu cu)
 pb:W.heap[bp]?=some (eptO tk0 v n)
theorem Pr.of {t u:Tk} {w:World} {pc pu:Option Addr} {cc cu q bp:Nat} {v:Value} {n:Int} {W W':World} (h:Pr t u w pc pu cc cu q bp v n W) (hb:∀ k,k<W.heap.size->v.ownBlock≠some k->W'.heap[k]?=W.heap[k]?) (n1:v.ownBlock≠some w.heap.size) (n2:v.ownBlock≠some q) (n3:v.ownBlock≠some bp):Pr t u w pc pu cc cu q bp v n W' :=
 ⟨(hb _ (Array.getElem?_eq_some_iff.1 h.t0).1 n1).trans h.t0,(hb _ (Array.getElem?_eq_some_iff.1 h.q0).1 n2).trans h.q0,(hb _ (Array.getElem?_eq_some_iff.1 h.pb).1 n3).trans h.pb⟩
theorem partAt_yes (f:Fm) (hz:chkZ f=none) (i n:Nat) (t:Tk) (ht:f.toks[i]?=some t) (h2:t.op=2) (hn:t.pair=(n:Int)) (hin:i<n) (hnl:n<f.toks.length) (pp:Option Addr) (cp:Nat) (hcp:f.toks.length<=cp) (w:World) (tl:TkL w pp w.heap.size f.toks) :
  Calls Tryz.prog 55 #[.slice pp f.toks.length cp,.int .i64 (i:Int)] w fun r w'=>∃ g,r = .returned (.pointer (some ⟨g,0,none⟩))/\PartC w' w.heap.size w'.heap.size g (ptT t) (ptL f.toks i t)/\Below w.heap.size w w':=by
 obtain⟨g,o,pc,cc,rfl,hg,hT,_,_,hO⟩:=tl.at ht
 have hil:(i:Int)<(f.toks.length:Int):=by have:=(List.getElem?_eq_some_iff.1 ht).1;omega
 have hll:=tl.len
 have lT:Hid _:=⟨hT.load⟩
 have sT:Hid _:=⟨fun z hz=>st_new w z hz t pc cc⟩
 have c2:(t.op != 2)=false:=by simp[h2]
 have e1:Hid (ptT t=tk0):=⟨by unfold ptT;rw[if_pos h2]⟩
 have e2:Hid (ptL f.toks i t=lvsF f.toks t i (n-i)):=⟨by unfold ptL;rw[if_pos h2,hn];rfl⟩
 have k:=tk_of (thnK w (tkO t pc cc))
 have k0:=k.c0
 have hB1:Hid _:=⟨nbel w (tkO t pc cc)⟩
 have hT0:Hid _:=⟨thnK w (tkO t pc cc)⟩
 have bP:Hid _:=⟨fun W=>bd_part0 W⟩
 have k20:=k.c20
 simp only[Nat.zero_add] at k20
 rw[hn] at k20
 have TL:Hid (∀ W,Below w.heap.size w W->TkL W (some ⟨g,o,none⟩) w.heap.size f.toks):=⟨fun W h=>tl.below h⟩
 clear hT tl hO k h2
 go_enter Tryz.func55,Tryz.ntmps55
 go_upto_region 2 with (first
  | (guard_target =~ wpList _ _ _ (Oper.mk _ (Op.load 78 _) _ _ _ _::_) _ _;go_must (refine wpList_ld 78 _ rfl rfl _ _ rfl lT.out ?_);simp only[pts])
  | (guard_target =~ wpList _ _ _ (Oper.mk _ (Op.store 78 _ _) _ _ _ _::_) _ _;go_must (refine wpList_st 78 _ _ rfl rfl _ _ rfl rfl (sT.out _ rfl) ?_);simp only[pts]))
 have hsz:(w.alloc (tkO t pc cc)).heap.size=w.heap.size+1:=World.size_alloc _ _
 generalize hW1:w.alloc (tkO t pc cc)=W1 at *
 have k20':(W1.alloc (eptO tk0 (.slice none 0 0) 0)).cell? ⟨w.heap.size,20,none⟩=some (.int .i64 (n:Int)):=((nbel W1 _).cell (p:=⟨w.heap.size,20,none⟩) (by show w.heap.size<_;omega)).trans k20
 have H0:Hid (Pw f.toks t i w pc cc (w.heap.size+1) 0 (.slice none 0 0) (W1.alloc (eptO tk0 (.slice none 0 0) 0))):=⟨⟨((nbel W1 _).block w.heap.size (by omega)).trans hT0.out,by rw[<- hsz];exact thnK _ _,World.ownsRow_nil _ _ _ _,hB1.out.trans ((nbel W1 _).mono hB1.out.size),by omega⟩⟩
 clear lT sT hT0
 have bX:=bx_part tk0 W1
 rw[hsz] at bX
 replace bX:=Hid.mk bX
 have s1:(i:Int)<=(n:Int):=by omega
 have s2:(n:Int)<=(cp:Int):=by omega
 have s3:i<=n:=by omega
 have s4:n<=cp:=by omega
 go_wp2_with (first
  | (guard_target =~ wpList _ _ _ (Oper.mk _ (Op.build 89 _) _ _ _ _::_) _ _;go_must (refine wpList_bd 89 _ rfl rfl _ _ (by simp only[List.map_toArray,List.map_nil]) (bP.out W1) ?_);simp only[pts])
  | (guard_target =~ wpList _ _ _ (Oper.mk _ (Op.box 89 _) _ _ _ _::_) _ _;go_must (refine wpList_bx 89 _ rfl rfl _ _ rfl bX.out ?_);simp only[pts]))
 clear bP bX k20 k20' k0 hB1 hsz hW1
 generalize hbp:w.heap.size+1=bp at *
 go_loopw [39] (fun q wr=>∃ (k:Nat) (v:Value),q = .int .i64 (k:Int)/\k<=n-i/\Hid (Pw f.toks t i w pc cc bp k v wr)) (fun q _=>n-i-(RowKit.intOf q).toNat)
 case atStart=>exact⟨0,.slice none 0 0,by go_num,Nat.zero_le _,H0⟩
 case round =>
  clear H0
  obtain⟨k,v,rfl,hk,hI⟩:=hrel
  by_cases hlt:k<n-i
  ·have hltI:(k:Int)<((n-i:Nat):Int):=by omega
   obtain⟨u,hu⟩:∃ u,f.toks[i+k]?=some u:=⟨f.toks[i+k]'(by omega),List.getElem?_eq_getElem (by omega)⟩
   obtain⟨_,_,pu,cu,e,_,hTu,_,_,hOu⟩:=(TL.out wr hI.out.be).at hu
   cases e
   have lU:Hid ((Instr.loadAt 78 (.pointer (some ⟨g,o+i*21+k*21,none⟩))).run Tryz.prog wr = .ok (tkV u pu cu) wr):=⟨by
    have:=hTu.load
    rwa [show o+(i+k)*21=o+i*21+k*21 by omega] at this⟩
   have sU:Hid _:=⟨fun z hz=>st_new wr z hz u pu cu⟩
   have hq:=tk_of (thnK wr (tkO u pu cu))
   have q0:=hq.c0
   have q8:=hq.c8
   simp only[Nat.zero_add] at q8
   have hbq:=nbel wr (tkO u pu cu)
   have HU:Hid _:=⟨hu⟩
   have HO:Hid _:=⟨hOu⟩
   have hqb:=thnK wr (tkO u pu cu)
   have HI2:Hid (∀ W,Below wr.heap.size wr W->lvE u=false->Pw f.toks t i w pc cc bp (k+1) v W):=⟨fun W hb hf=>by
    have h:=hI.out
    have e3:lvsF f.toks t i (k+1)=lvsF f.toks t i k:=by rw[lvsF,oneL_no hu hf,List.append_nil]
    exact⟨(hb.block _ (Array.getElem?_eq_some_iff.1 h.t0).1).trans h.t0,by rw[e3];exact(hb.block _ (Array.getElem?_eq_some_iff.1 h.pb).1).trans h.pb,by rw[e3];exact own_keep h.ow hb,h.be.trans (hb.mono h.be.size),h.bp⟩⟩
   clear hTu hq hu hOu
   by_cases h14:u.op=14
   ·have b1:(u.op==14)=true:=by simp[h14]
    by_cases hp2:u.pres=2
    ·have b2:(u.pres != 2)=false:=by simp[hp2]
     have hI3:Hid _:=⟨HI2.out _ hbq (by unfold lvE;simp[hp2])⟩
     clear h14 hp2 HI2 hI hbq hqb
     go_wp2_with (first
      | (guard_target =~ wpList _ _ _ (Oper.mk _ (Op.load 78 _) _ _ _ _::_) _ _;go_must (refine wpList_ld 78 _ rfl rfl _ _ rfl lU.out ?_);simp only[pts])
      | (guard_target =~ wpList _ _ _ (Oper.mk _ (Op.store 78 _ _) _ _ _ _::_) _ _;go_must (refine wpList_st 78 _ _ rfl rfl _ _ rfl rfl (sU.out _ rfl) ?_);simp only[pts]))
     go_roundw
     case rel=>exact⟨k+1,v,by go_num,by omega,hI3⟩
     case measure=>simp[RowKit.intOf];omega
    ·have b2:(u.pres != 2)=true:=by simp[hp2]
     have hlv:lvE u=true:=by unfold lvE;simp[h14,hp2]
     have eL:lvsF f.toks t i (k+1)=lvsF f.toks t i k++[lfE t u]:=by rw[lvsF,oneL_yes HU.out hlv]
     have hle:=lvsF_len f.toks t i k
     have hwb:=wdsL_bd _ (lvsF_pos hz t i k)
     have hul:=enc_len hz HU.out h14
     obtain⟨ls,hls⟩:∃ ls,Hid (ls=lvsF f.toks t i k):=⟨_,⟨rfl⟩⟩
     rw[<- hls.out] at eL hle hwb
     have hP:=hI.out
     have hPb:=hP.pb
     have hPo:=hP.ow
     rw[<- hls.out] at hPb hPo
     obtain⟨n0,hn0⟩:∃ n0,n0=wdsL ls:=⟨_,rfl⟩
     rw[<- hn0] at hPb hwb
     replace hn0:=Hid.mk hn0
     have hvb:∀ r,v.ownBlock=some r->bp+1<=r/\r<wr.heap.size:=fun r hr=>hPo.lt r hr
     have hq9:bp<wr.heap.size:=(Array.getElem?_eq_some_iff.1 hPb).1
     have hbpw:=hP.bp
     have nw:v.ownBlock≠some w.heap.size:=fun e=>by have:=(hvb _ e).1;omega
     have nq:v.ownBlock≠some wr.heap.size:=fun e=>by have:=(hvb _ e).2;omega
     have nb:v.ownBlock≠some bp:=fun e=>by have:=(hvb _ e).1;omega
     have P2:Pr t u w pc pu cc cu wr.heap.size bp v n0 (wr.alloc (tkO u pu cu)):=⟨(hbq.block _ (Array.getElem?_eq_some_iff.1 hP.t0).1).trans hP.t0,hqb,(hbq.block _ hq9).trans hPb⟩
     have B2:Hid (Below w.heap.size w (wr.alloc (tkO u pu cu))/\(wr.alloc (tkO u pu cu)).heap.size=wr.heap.size+1):=⟨hP.be.trans (hbq.mono hP.be.size),World.size_alloc _ _⟩
     have O2:Hid ((wr.alloc (tkO u pu cu)).ownsRow (bp+1) 144 3 v ls.length (lfCs ls)):=⟨own_keep hPo hbq⟩
     have NN:Hid (v.ownBlock≠some w.heap.size/\v.ownBlock≠some wr.heap.size/\v.ownBlock≠some bp/\w.heap.size<bp/\bp<wr.heap.size/\ls.length<=k):=⟨nw,nq,nb,hbpw,by omega,hle⟩
     clear h14 hp2 HI2 hI hbq hqb hP hPb hPo hvb nw nq nb hq9 hbpw hle
     go_upto_region 9 with (first
      | (guard_target =~ wpList _ _ _ (Oper.mk _ (Op.load 78 _) _ _ _ _::_) _ _;go_must (refine wpList_ld 78 _ rfl rfl _ _ rfl lU.out ?_);simp only[pts])
      | (guard_target =~ wpList _ _ _ (Oper.mk _ (Op.store 78 _ _) _ _ _ _::_) _ _;go_must (refine wpList_st 78 _ _ rfl rfl _ _ rfl rfl (sU.out _ rfl) ?_);simp only[pts]))
     generalize hW2:wr.alloc (tkO u pu cu)=W2 at *
     clear hW2 lU sU q0 q8
     generalize wr.heap.size=q at *
     have p0:Pr t u w pc pu cc cu q bp v n0 W2.drew:=P2.of (fun k _ _=>rfl) NN.out.1 NN.out.2.1 NN.out.2.2.1
     have O3:Hid (W2.drew.ownsRow (bp+1) 144 3 v ls.length (lfCs ls)):=⟨own_keep O2.out (Below.refl _ _).drew⟩
     have B3:Hid (Below w.heap.size w W2.drew/\W2.drew.heap.size=q+1):=⟨B2.out.1.drew,B2.out.2⟩
     obtain⟨p,pi,pN,x21,x3,y3,y6,y7⟩:∃ p:World->Prop,(∀ V,p V↔Pr t u w pc pu cc cu q bp v n0 V)/\Nonempty (CW p)/\(∀ θ:CW p,θ.w.cell? ⟨bp,21,none⟩=some v)/\(∀ θ:CW p,θ.w.cell? ⟨w.heap.size,3,none⟩=some (.int .i64 t.off))/\(∀ θ:CW p,θ.w.cell? ⟨q,3,none⟩=some (.int .i64 u.off))/\(∀ θ:CW p,θ.w.cell? ⟨q,6,none⟩=some (.int .i64 u.prim))/\(∀ θ:CW p,θ.w.cell? ⟨q,7,none⟩=some (.int .i64 u.len)) :=
      ⟨fun V=>Pr t u w pc pu cc cu q bp v n0 V,fun _=>Iff.rfl,⟨⟨_,p0⟩⟩,fun θ=>cell_at θ.h.pb 21,fun θ=>cell_at θ.h.t0 3,fun θ=>cell_at θ.h.q0 3,fun θ=>cell_at θ.h.q0 6,fun θ=>cell_at θ.h.q0 7⟩
     have hp0:=(pi _).2 p0
     replace pi:=Hid.mk pi
     replace P2:=Hid.mk P2
     replace p0:=Hid.mk p0
     refine wp_region_lw 20 (fun V=>∃ θ:CW p,V=θ.w) (by kernel_rfl) (by kernel_rfl) (fun _ _ d _ _ h=>by cases d<;>exact h) ⟨⟨_,hp0⟩,rfl⟩ ?_
     generalize W2.drew=V at hp0 p0 O3 B3 ⊢
     repeat (first|(guard_target =~ Lw _ _ _ _ (Oper.mk _ (Op.call _) _ _ _ _::_) _ _;fail)|(guard_target =~ Lw _ _ _ _ (Oper.mk _ (Op.buildSlice _ _ _) _ _ _ _::_) _ _;fail)|(guard_target =~ Lw _ _ _ _ (Oper.mk _ (Op.store _ _ _) _ _ _ _::_) _ _;fail)|(refine lw_one rfl ?_;(first|go_big_quiet_skip|(go_big_quiet_want;go_big_quiet_op;go_big_quiet_on));refine wpQuiet_nil ?_))
     refine lw_bs (ys:=#[(0,.agg #[.int .i64 u.prim,.int .i64 (wrap64 (t.off+u.off)),.int .i64 u.len])]) (v:=.slice (some ⟨V.heap.size,0,none⟩) 1 1) (w':=V.alloc (.cells #[.int .i64 u.prim,.int .i64 (wrap64 (t.off+u.off)),.int .i64 u.len] 144)) (by kernel_rfl) ⟨⟨_,(pi.out _).2 (p0.out.of (fun k hk _=>(nbel V _).block k hk) NN.out.1 NN.out.2.1 NN.out.2.2.1)⟩,rfl⟩ (by simp only[List.map_toArray,List.map_cons,List.map_nil];rfl) (by rfl) ?_
     simp only[pts]
     obtain⟨v9,w9,r1,r2,r3,r4,r5⟩:=lf_ap (lfE t u) O3.out (by have:=NN.out.2.2.2.2.2;omega) (by have:=B3.out.2;have:=NN.out.2.2.2.2.1;omega)
     have q9:Pr t u w pc pu cc cu q bp v n0 w9:=p0.out.of r4 NN.out.1 NN.out.2.1 NN.out.2.2.1
     refine lw_ap (Post:=fun v w=>v=v9/\w=w9) ⟨v9,w9,r1,rfl,rfl⟩ rfl rfl (by rfl) ?_
     rintro vq wq ⟨ev,eq⟩
     obtain rfl:v9=vq:=ev.symm
     obtain rfl:w9=wq:=eq.symm
     refine⟨⟨⟨_,(pi.out _).2 q9⟩,rfl⟩,?_⟩
     simp only[pts]
     repeat (first|(guard_target =~ Lw _ _ _ _ (Oper.mk _ (Op.call _) _ _ _ _::_) _ _;fail)|(guard_target =~ Lw _ _ _ _ (Oper.mk _ (Op.buildSlice _ _ _) _ _ _ _::_) _ _;fail)|(guard_target =~ Lw _ _ _ _ (Oper.mk _ (Op.store _ _ _) _ _ _ _::_) _ _;fail)|(refine lw_one rfl ?_;(first|go_big_quiet_skip|(go_big_quiet_want;go_big_quiet_op;go_big_quiet_on));refine wpQuiet_nil ?_))
     have f9:w9.frozen? ⟨bp,21,none⟩=false:=efrz q9.pb
     have c9:w9.cell? ⟨bp,21,none⟩=some v:=cell_at q9.pb 21
     obtain⟨z1,z2,z3,rfl⟩:∃ z1 z2 z3,v9 = .slice z1 z2 z3:=by
      rcases r2.2 with ⟨e,_⟩|⟨_,_,_,e,_⟩
      ·exact⟨_,_,_,e⟩
      ·exact⟨_,_,_,e⟩
     refine lw_st (st_lf c9 f9) rfl rfl (by rfl) ?_
     have hz9:=r3.size
     have nb9:(Value.slice z1 z2 z3).ownBlock≠some bp:=fun e=>by have:=(r2.lt _ e).1;omega
     have P5:Pr t u w pc pu cc cu q bp (.slice z1 z2 z3) n0 (w9.setCell ⟨bp,21,none⟩ (.slice z1 z2 z3)):=⟨(eset_off (by have:=NN.out.2.2.2.1;omega)).trans q9.t0,(eset_off (by have:=NN.out.2.2.2.2.1;omega)).trans q9.q0,(eset_at q9.pb _).trans rfl⟩
     have O5:Hid ((w9.setCell ⟨bp,21,none⟩ (.slice z1 z2 z3)).ownsRow (bp+1) 144 3 (.slice z1 z2 z3) (ls++[lfE t u]).length (lfCs (ls++[lfE t u]))):=⟨own_keepP r2 fun k hk=>eset_off (fun e=>nb9 (e▸hk))⟩
     have B5:Hid (Below w.heap.size w (w9.setCell ⟨bp,21,none⟩ (.slice z1 z2 z3))):=⟨(B3.out.1.trans (r3.mono (by have:=NN.out.2.2.2.1;omega))).setCell (p:=⟨bp,21,none⟩) (by show _<=bp;have:=NN.out.2.2.2.1;omega) _⟩
     generalize hW5:w9.setCell ⟨bp,21,none⟩ (.slice z1 z2 z3)=W5 at *
     clear hW5 r1 r2 r3 r4 r5 f9 c9 q9 p0 hp0 hz9 O3 B3 x21 x3 y3 y6 y7 pN
     go_upto_region 10 with fail
     have p5:Pr t u w pc pu cc cu q bp (.slice z1 z2 z3) n0 W5.drew:=⟨P5.t0,P5.q0,P5.pb⟩
     have O6:Hid (W5.drew.ownsRow (bp+1) 144 3 (.slice z1 z2 z3) (ls++[lfE t u]).length (lfCs (ls++[lfE t u]))):=⟨own_keep O5.out (Below.refl _ _).drew⟩
     have B6:Hid (Below w.heap.size w W5.drew):=⟨B5.out.drew⟩
     obtain⟨p,pi,pN,x22,y7⟩:∃ p:World->Prop,p W5.drew/\Nonempty (CW p)/\(∀ θ:CW p,θ.w.cell? ⟨bp,22,none⟩=some (.int .i64 n0))/\(∀ θ:CW p,θ.w.cell? ⟨q,7,none⟩=some (.int .i64 u.len)) :=
      ⟨fun V=>Pr t u w pc pu cc cu q bp (.slice z1 z2 z3) n0 V,p5,⟨⟨_,p5⟩⟩,fun θ=>cell_at θ.h.pb 22,fun θ=>cell_at θ.h.q0 7⟩
     replace P5:=Hid.mk P5
     replace p5:=Hid.mk p5
     refine wp_region_lw 9 (fun V=>∃ θ:CW p,V=θ.w) (by kernel_rfl) (by kernel_rfl) (fun _ _ d _ _ h=>by cases d<;>exact h) ⟨⟨_,pi⟩,rfl⟩ ?_
     simp only[pts]
     generalize W5.drew=V at pi p5 O6 B6 ⊢
     repeat (first|(guard_target =~ Lw _ _ _ _ (Oper.mk _ (Op.call _) _ _ _ _::_) _ _;fail)|(guard_target =~ Lw _ _ _ _ (Oper.mk _ (Op.buildSlice _ _ _) _ _ _ _::_) _ _;fail)|(guard_target =~ Lw _ _ _ _ (Oper.mk _ (Op.store _ _ _) _ _ _ _::_) _ _;fail)|(refine lw_one rfl ?_;(first|go_big_quiet_skip|(go_big_quiet_want;go_big_quiet_op;go_big_quiet_on));refine wpQuiet_nil ?_))
     have f9:V.frozen? ⟨bp,22,none⟩=false:=efrz p5.out.pb
     have c9:V.cell? ⟨bp,22,none⟩=some (.int .i64 n0):=cell_at p5.out.pb 22
     refine lw_st (st_in c9 f9) rfl rfl (by rfl) ?_
     have hW:wrap64 (n0+u.len)=wdsL (lvsF f.toks t i (k+1)):=by
      rw[eL,wdsL_app,<- hn0.out]
      show _=n0+(u.len+0)
      unfold wrap64
      have:=NN.out.2.2.2.2.2
      omega
     have nb9:(Value.slice z1 z2 z3).ownBlock≠some bp:=fun e=>by have:=(O6.out.lt _ e).1;omega
     have HF:Hid (Pw f.toks t i w pc cc bp (k+1) (.slice z1 z2 z3) (V.setCell ⟨bp,22,none⟩ (.int .i64 (wrap64 (n0+u.len))))):=⟨⟨(eset_off (by have:=NN.out.2.2.2.1;omega)).trans p5.out.t0,by rw[<- hW];exact(eset_at p5.out.pb _).trans rfl,by rw[eL];exact own_keepP O6.out fun k hk=>eset_off (fun e=>nb9 (e▸hk)),B6.out.setCell (p:=⟨bp,22,none⟩) (by show _<=bp;have:=NN.out.2.2.2.1;omega) _,NN.out.2.2.2.1⟩⟩
     clear hW f9 c9 pi p5 O6 B6 P5 x22 y7 pN nb9
     generalize V.setCell ⟨bp,22,none⟩ (.int .i64 (wrap64 (n0+u.len)))=V9 at HF ⊢
     go_wp2_with fail
     go_roundw
     case rel=>exact⟨k+1,.slice z1 z2 z3,by go_num,by omega,HF⟩
     case measure=>simp[RowKit.intOf];omega
   ·have b1:(u.op==14)=false:=beq_eq_false_iff_ne.2 h14
    have hI3:Hid _:=⟨HI2.out _ hbq (by unfold lvE;simp[h14])⟩
    clear h14 HI2 hI hbq hqb
    go_wp2_with (first
     | (guard_target =~ wpList _ _ _ (Oper.mk _ (Op.load 78 _) _ _ _ _::_) _ _;go_must (refine wpList_ld 78 _ rfl rfl _ _ rfl lU.out ?_);simp only[pts])
     | (guard_target =~ wpList _ _ _ (Oper.mk _ (Op.store 78 _ _) _ _ _ _::_) _ _;go_must (refine wpList_st 78 _ _ rfl rfl _ _ rfl rfl (sU.out _ rfl) ?_);simp only[pts]))
    go_roundw
    case rel=>exact⟨k+1,v,by go_num,by omega,hI3⟩
    case measure=>simp[RowKit.intOf];omega
  ·obtain rfl:k=n-i:=by omega
   have hltI:decide (((n-i:Nat):Int)<((n-i:Nat):Int))=false:=by simp
   clear TL
   go_wp2_with fail
   go_ret
   have hP:=hI.out
   refine⟨_,rfl,?_,hP.be⟩
   rw[e1.out,e2.out]
   have h9:=(Array.getElem?_eq_some_iff.1 hP.pb).1
   have h8:=hP.bp
   exact⟨by omega,h9,v,hP.pb,own_lower hP.ow (by omega),fun r hr=>(hP.ow.lt r hr).2⟩
end Go.Proofs.YtjlbcdnkglaheaaGreatDoor

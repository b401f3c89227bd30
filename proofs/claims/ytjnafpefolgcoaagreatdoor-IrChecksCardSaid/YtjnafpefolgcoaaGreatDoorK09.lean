import Derived.Test.YtjnafpefolgcoaaGreatDoorK08
import Derived.Deep.RegionHeld3
namespace Go.Proofs.YtjnafpefolgcoaaGreatDoor
set_option maxRecDepth 1000000
set_option maxHeartbeats 16000000
open Go.ChangeShapes Go.WideShapes Go.ChangeAt Go.RowKit Go.Shelf Go.Maps
theorem shAddr (g j:Nat):(⟨g,0,none⟩:Addr).add j=⟨g,j,none⟩:=by unfold Addr.add;split<;>simp_all
def iV (n:Int):Value:=.int .i64 n
theorem ent_words:∀ ag w,(callFunc 86 ag).run Tryz.prog w = .ok (.enter 86 ag) w:=enters_of Tryz.func86 (by kernel_rfl) rfl
theorem ent_nameOf:∀ ag w,(callFunc 87 ag).run Tryz.prog w = .ok (.enter 87 ag) w:=enters_of Tryz.func87 (by kernel_rfl) rfl
theorem ent_itoa:∀ ag w,(callFunc 88 ag).run Tryz.prog w = .ok (.enter 88 ag) w:=enters_of Tryz.func88 (by kernel_rfl) rfl
theorem ent_fmtu:∀ ag w,(callFunc 89 ag).run Tryz.prog w = .ok (.enter 89 ag) w:=enters_of Tryz.func89 (by kernel_rfl) rfl
section
variable {P:Program} {ops:Array Oper} {Q:Exit->Act->World->Prop} {C:World->Prop} {d:Option Tmp} {ty:TypeId} {ps:String} {af:Array Edge} {gd:Option (Nat×Bool)} {r:List Oper} {a:Act} {w:World}
theorem lw_call3 {f:FuncId} {x1 x2 x3:Operand} {y1 y2 y3:Value} {tx:Array TypeId} {R:Value->World->Prop} (hen:∀ ag w,(callFunc f ag).run P w = .ok (.enter f ag) w) (hc:Calls P f #[y1,y2,y3] w fun e w'=>∃ v,e = .returned v/\R v w') (h1:a.eval x1=y1) (h2:a.eval x2=y2) (h3:a.eval x3=y3) (hw:Region.wanted ⟨d,.call { callee:=.value (.func f),args:=#[x1,x2,x3],argTypes:=tx },ty,ps,af,gd⟩ (yielded ops a.tmps)=true)
  (h:∀ v w',R v w'->C w'/\Lw P ops Q C r (a.put d v) w'):Lw P ops Q C (⟨d,.call { callee:=.value (.func f),args:=#[x1,x2,x3],argTypes:=tx },ty,ps,af,gd⟩::r) a w :=
 lw_act hw rfl fun K hK=>by
  have hf:a.eval (.func f) = .func (.func f) #[] #[]:=rfl
  unfold Oper.wp execOp
  simp only[resolve,invoke,Sem.run_bind,hf]
  simp[Deferred.ofValue,hen,Oper.upon_enter,h1,h2,h3]
  refine hc.mono ?_
  rintro e w' ⟨v,rfl,hp⟩
  exact hK _ _ C (.inr ⟨fun _ h=>h,(h v w' hp).1⟩) (h v w' hp).2
end
theorem words_at (k nm:ByteArray) (ns:List Int) (V:World) (hb:∀ x∈ns,0<=x/\x<=65535) (hl:ns.length<=4) (tb:ShTb V) :
  Calls Tryz.prog 86 #[.string k,.string nm,.slice (some ⟨V.heap.size,0,none⟩) ns.length ns.length] (V.alloc (.cells (ns.map iV).toArray 3)) fun e w'=>∃ v,e = .returned v/\SRow w' V.heap.size v ([k,nm]++ns.map shI)/\Below V.heap.size V w':=by
 have hB:=nbel V (.cells (ns.map iV).toArray 3)
 have hs:(V.alloc (.cells (ns.map iV).toArray 3)).heap.size=V.heap.size+1:=World.size_alloc _ _
 refine(words_any k nm ns (some ⟨V.heap.size,0,none⟩) ns.length _ (fun j x hx=>⟨V.heap.size,rfl,by omega,?_⟩) hb hl (tb.below hB)).mono ?_
 ·rw[cell_at (thnK V _)]
  simp[iV,hx]
 ·rintro e w' ⟨v,rfl,h1,h2⟩
  exact⟨v,rfl,h1.low (by omega),hB.trans (h2.mono (by omega))⟩
theorem words_0 (k nm:ByteArray) (V:World) (tb:ShTb V) :
  Calls Tryz.prog 86 #[.string k,.string nm,.slice none 0 0] V fun e w'=>∃ v,e = .returned v/\SRow w' V.heap.size v [k,nm]/\Below V.heap.size V w' :=
 words_any k nm [] none 0 V (fun j x hx=>by cases hx) (fun x hx=>by cases hx) (by simp) tb
theorem World.news_of_block' {W:World} {g:Nat} {cs:Array Value} {ty:TypeId} (h:W.heap[g]?=some (.cells cs ty)) (ss:List ByteArray) (e:cs=(ss.map cS).toArray):∀ (j:Nat) u,ss[j]?=some u->W.cell? ((⟨g,0,none⟩:Addr).add j)=some (.string u):=fun j u hu=>by
 rw[shAddr,cell_at h,e]
 simp[hu,cS]
structure TkW (w:World) (t:Tk) (pc:Option Addr) (cc:Nat) (p:World->Prop):Prop where
 blk:∀ V,p V->V.heap[w.heap.size]?=some (tkO t pc cc)
 tab:∀ V,p V->ShTb V
 low:∀ V,p V->Below w.heap.size w V/\w.heap.size<V.heap.size
 up:∀ V V',p V->Below V.heap.size V V'->p V'
theorem tkw_ex (t:Tk) (pc:Option Addr) (cc:Nat) (w:World) (tb:ShTb w):∃ W1,w.alloc (.cells #[.int .i64 t.op,.string t.name,.int .i64 t.id,.int .i64 t.off,.int .i64 t.siz,.int .i64 t.since,.int .i64 t.prim,.int .i64 t.len,.int .i64 t.pres,.int .u64 t.nul,.int .u64 t.lo,.int .u64 t.hi,.slice pc t.cst.length cc,.int .u64 t.val,.int .i64 t.blk,.int .i64 t.full,.int .i64 t.a.p,.int .i64 t.a.o,.int .i64 t.b.p,.int .i64 t.b.o,.int .i64 t.pair] 53)=W1/\∃ p,TkW w t pc cc p/\p W1:=by
 have hB:=nbel w (tkO t pc cc)
 have hs:(w.alloc (tkO t pc cc)).heap.size=w.heap.size+1:=World.size_alloc _ _
 refine⟨_,rfl,fun V=>Below (w.alloc (tkO t pc cc)).heap.size (w.alloc (tkO t pc cc)) V,⟨fun V h=>(h.block _ (by omega)).trans (thnK w _),fun V h=>(tb.below hB).below h,fun V h=>⟨hB.trans (h.mono (by omega)),by have:=h.size;omega⟩,fun V V' h h'=>h.trans (h'.mono h.size)⟩,Below.refl _ _⟩
theorem ap_if {P:Program} {o:Oper} {y:Array Oper} {a:Act} {w:World} {K:Act->World->Prop} {Q:Exit->Act->World->Prop} {E:Prop} (hw:Region.wanted o (yielded y a.tmps)=true) (s x:Operand) (t tx:TypeId)
  (ho:o.op = .call { callee:=.builtin .append,args:=#[s,x],argTypes:=#[t,tx] }) (sv xv:Value) (hs:a.eval s=sv) (hx:a.eval x=xv) (Post:Value->World->Prop)
  (hrun:∃ v w',(∀ ty,(Builtin.append_ #[t,tx] ty #[sv,xv]).run P w = .ok v w')/\Post v w') (h:∀ v w',Post v w'->K (a.put o.dst v) w'):if Region.wanted o (yielded y a.tmps)=true then Oper.wp P o a w K Q else E:=by
 rw[if_pos hw]
 obtain⟨v,w',hr,hp⟩:=hrun
 unfold Oper.wp execOp
 simp only[ho,resolve,invoke,builtin,Sem.run_bind,Sem.run_pure,Result.andThen_ok,List.map_toArray,List.map_cons,List.map_nil,hs,hx,hr]
 exact h v w' hp
theorem told_ap {w:World} {t:Tk} {pc:Option Addr} {cc:Nat} {p:World->Prop} (hp:TkW w t pc cc p) {X0 X:World} {v:Value} {a b c d e f s:ByteArray} (h0:p X0) (hR:SRow X X0.heap.size v [a,b,c,d,e,f]) (hB:Below X0.heap.size X0 X) (g:Nat) (hg:X.heap[g]?=some (.cells #[.string s] 9)) :
  ∃ v' w',(∀ ty,(Builtin.append_ #[35,35] ty #[v,.slice (some ⟨g,0,none⟩) 1 1]).run Tryz.prog X = .ok v' w')/\Hid (SRow w' w.heap.size v' [a,b,c,d,e,f,s]/\Below w.heap.size w w'/\p w'):=by
 obtain⟨v',w',e1,e2,e3,-⟩:=str_ap hR ⟨g,0,none⟩ [s] 1 (World.news_of_block' hg [s] rfl) (by simp) hB.size
 have h1:=hB.trans e3
 have h2:=hp.up _ _ h0 h1
 exact⟨v',w',e1,⟨e2.low (hp.low _ h0).1.size,(hp.low _ h2).1,h2⟩⟩
theorem told_0 (t:Tk) (pc:Option Addr) (cc:Nat) (w:World) (hop:t.op=0) (hN:ShN t) (_hv:0<=t.val/\t.val<18446744073709551616) (tb:ShTb w) :
  Calls Tryz.prog 51 #[tkV t pc cc] w fun e w'=>∃ v,e = .returned v/\SRow w' w.heap.size v (shT pnZ t)/\Below w.heap.size w w':=by
 have hT:shT pnZ t=[shMsg,t.name,shI t.id,shI t.since,shI t.blk]:=by unfold shT;rw[if_pos hop]
 rw[hT]
 clear hT
 obtain⟨W1,hW,p,hp,p1⟩:=tkw_ex t pc cc w tb
 have b_id:=hN.id (by omega)
 have b_since:=hN.since (by omega)
 have b_blk:=hN.blk (by omega)
 have hBk:=hp.blk W1 p1
 have z0:W1.cell? ⟨w.heap.size,0,none⟩=some (.int .i64 t.op):=cell_at hBk 0
 rw[hop] at z0 hW
 have z1:W1.cell? ⟨w.heap.size,1,none⟩=some (.string t.name):=cell_at hBk 1
 have z_id:W1.cell? ⟨w.heap.size,2,none⟩=some (.int .i64 t.id):=cell_at hBk 2
 have z_since:W1.cell? ⟨w.heap.size,5,none⟩=some (.int .i64 t.since):=cell_at hBk 5
 have z_blk:W1.cell? ⟨w.heap.size,14,none⟩=some (.int .i64 t.blk):=cell_at hBk 14
 have cW:=words_at shMsg t.name [t.id,t.since,t.blk] W1 (by simp;omega) (by simp) (hp.tab W1 p1)
 simp only[List.map_cons,List.map_nil,iV,List.length_cons,List.length_nil,Nat.zero_add,List.cons_append,List.nil_append] at cW
 replace hp:=Hid.mk hp
 replace p1:=Hid.mk p1
 clear hBk hN tb _hv
 go_enter Tryz.func51,Tryz.ntmps51
 go_wp2_with (go_at_call 86;refine cW.mono ?_;clear cW;rintro _ w2 ⟨v,rfl,hR,hB⟩;replace hR:=Hid.mk hR;replace hB:=Hid.mk hB)
 go_ret
 have q:=hp.out.low W1 p1.out
 exact⟨_,rfl,hR.out.low q.1.size,q.1.trans (hB.out.mono q.1.size)⟩
theorem told_2 (t:Tk) (pc:Option Addr) (cc:Nat) (w:World) (hop:t.op=2) (hN:ShN t) (_hv:0<=t.val/\t.val<18446744073709551616) (tb:ShTb w) :
  Calls Tryz.prog 51 #[tkV t pc cc] w fun e w'=>∃ v,e = .returned v/\SRow w' w.heap.size v (shT pnZ t)/\Below w.heap.size w w':=by
 have hT:shT pnZ t=[shFld,t.name,shI t.id,shI t.since,shI t.off,shI t.siz,shP t.pres]:=by unfold shT;rw[if_neg (by omega),if_pos hop]
 rw[hT]
 clear hT
 obtain⟨W1,hW,p,hp,p1⟩:=tkw_ex t pc cc w tb
 have b_id:=hN.id (by omega)
 have b_since:=hN.since (by omega)
 have b_off:=hN.off (by omega)
 have b_siz:=hN.siz (by omega)
 have b_pres:=hN.pres (by omega)
 have hBk:=hp.blk W1 p1
 have z0:W1.cell? ⟨w.heap.size,0,none⟩=some (.int .i64 t.op):=cell_at hBk 0
 rw[hop] at z0 hW
 obtain⟨P,hPr⟩:∃ P:Nat,t.pres=P:=⟨t.pres.toNat,by omega⟩
 have hP3:(P:Int)<3:=by omega
 have hP3n:P<3:=by omega
 have x_name:∀ θ:CW p,θ.w.cell? ⟨w.heap.size,1,none⟩=some (.string t.name):=fun θ=>cell_at (hp.blk θ.w θ.h) 1
 have x_id:∀ θ:CW p,θ.w.cell? ⟨w.heap.size,2,none⟩=some (.int .i64 t.id):=fun θ=>cell_at (hp.blk θ.w θ.h) 2
 have x_since:∀ θ:CW p,θ.w.cell? ⟨w.heap.size,5,none⟩=some (.int .i64 t.since):=fun θ=>cell_at (hp.blk θ.w θ.h) 5
 have x_off:∀ θ:CW p,θ.w.cell? ⟨w.heap.size,3,none⟩=some (.int .i64 t.off):=fun θ=>cell_at (hp.blk θ.w θ.h) 3
 have x_siz:∀ θ:CW p,θ.w.cell? ⟨w.heap.size,4,none⟩=some (.int .i64 t.siz):=fun θ=>cell_at (hp.blk θ.w θ.h) 4
 have x_pres:∀ θ:CW p,θ.w.cell? ⟨w.heap.size,8,none⟩=some (.int .i64 P):=fun θ=>by rw[<- hPr];exact cell_at (hp.blk θ.w θ.h) 8
 have x_ps:∀ θ:CW p,θ.w.cell? ⟨0,P,none⟩=some (.string (shP P)):=fun θ=>(hp.tab θ.w θ.h).p P hP3n
 rw[hPr]
 have pN:Nonempty (CW p):=⟨⟨W1,p1⟩⟩
 have hdr:Hid (∀ V,p V->p V.drew):=⟨fun V h=>hp.up V _ h (Below.refl _ _).drew⟩
 have cW:Hid (∀ V,p V->Calls Tryz.prog 86 #[.string shFld,.string t.name,.slice (some ⟨V.heap.size,0,none⟩) 4 4] (V.alloc (.cells #[.int .i64 t.id,.int .i64 t.since,.int .i64 t.off,.int .i64 t.siz] 3)) fun e w'=>∃ v,e = .returned v/\SRow w' V.heap.size v [shFld,t.name,shI t.id,shI t.since,shI t.off,shI t.siz]/\Below V.heap.size V w'):=⟨fun V h=>words_at shFld t.name [t.id,t.since,t.off,t.siz] V (by simp;omega) (by simp) (hp.tab V h)⟩
 replace hp:=Hid.mk hp
 have p1':Hid _:=⟨p1⟩
 clear hBk hN tb _hv p1 hPr
 go_enter Tryz.func51,Tryz.ntmps51
 go_upto_region 5 with (fail)
 have hq:=hdr.out W1 p1'.out
 have S0:∀ V,p V->V.cell? ⟨w.heap.size,1,none⟩=some (.string t.name)/\V.cell? ⟨w.heap.size,2,none⟩=some (.int .i64 t.id)/\V.cell? ⟨w.heap.size,5,none⟩=some (.int .i64 t.since)/\V.cell? ⟨w.heap.size,3,none⟩=some (.int .i64 t.off)/\V.cell? ⟨w.heap.size,4,none⟩=some (.int .i64 t.siz)/\V.cell? ⟨w.heap.size,8,none⟩=some (.int .i64 P)/\V.cell? ⟨0,P,none⟩=some (.string (shP P)):=fun V h=>⟨x_name ⟨V,h⟩,x_id ⟨V,h⟩,x_since ⟨V,h⟩,x_off ⟨V,h⟩,x_siz ⟨V,h⟩,x_pres ⟨V,h⟩,x_ps ⟨V,h⟩⟩
 obtain⟨s1,s2,s3,s4,s5,s6,s7⟩:=S0 _ hq
 have cWA:Hid (∀ X gn,(∃ cs,X.heap[gn]?=some (.cells cs 3)/\cs=#[.int .i64 t.id,.int .i64 t.since,.int .i64 t.off,.int .i64 t.siz])->p X->Calls Tryz.prog 86 #[.string shFld,.string t.name,.slice (some ⟨gn,0,none⟩) 4 4] X fun e w'=>∃ v,e = .returned v/\SRow w' X.heap.size v [shFld,t.name,shI t.id,shI t.since,shI t.off,shI t.siz]/\Below X.heap.size X w'):=⟨fun X gn ⟨cs,hg,e⟩ hX=>words_any shFld t.name [t.id,t.since,t.off,t.siz] (some ⟨gn,0,none⟩) 4 X (fun j x hx=>⟨gn,rfl,(Array.getElem?_eq_some_iff.1 hg).1,by rw[cell_at hg,e];match j,hx with|0,hx=>(cases hx;rfl)|1,hx=>(cases hx;rfl)|2,hx=>(cases hx;rfl)|3,hx=>(cases hx;rfl)|n+4,hx=>(cases hx)⟩) (by simp;omega) (by simp) (hp.out.tab X hX)⟩
 have uA:∀ X o,p X->p (X.alloc o):=fun X o h=>hp.out.up _ _ h (nbel _ _)
 have uD:∀ X,p X->p X.drew:=fun X h=>hp.out.up _ _ h (Below.refl _ _).drew
 have p1:=p1'.out
 clear x_name x_id x_since x_off x_siz x_pres x_ps cW z0 s1 s2 s3 s4 s5 s6 s7 hq hW
 go_region_held3 (fun X=>X.cell? ⟨w.heap.size,1,none⟩=some (.string t.name)/\X.cell? ⟨w.heap.size,2,none⟩=some (.int .i64 t.id)/\X.cell? ⟨w.heap.size,5,none⟩=some (.int .i64 t.since)/\X.cell? ⟨w.heap.size,3,none⟩=some (.int .i64 t.off)/\X.cell? ⟨w.heap.size,4,none⟩=some (.int .i64 t.siz)/\X.cell? ⟨w.heap.size,8,none⟩=some (.int .i64 P)/\X.cell? ⟨0,P,none⟩=some (.string (shP P))) (exact S0 _ (by repeat (first|assumption|apply uA|apply uD))) (first
  | (go_at_call 86;refine(cWA.out _ _ ⟨_,(by first|exact thnK _ _|exact two_1 _ _ _|exact two_2 _ _ _),rfl⟩ (by repeat (first|assumption|apply uA|apply uD))).mono ?_;rintro _ w2 ⟨v,rfl,hR,hB⟩;have h2:p w2:=hp.out.up _ _ (by repeat (first|assumption|apply uA|apply uD)) hB)
  | (refine ap_if rfl _ _ _ _ rfl v (.slice (some ⟨w2.heap.size,0,none⟩) 1 1) rfl rfl (fun v9 w9=>Hid (SRow w9 w.heap.size v9 [shFld,t.name,shI t.id,shI t.since,shI t.off,shI t.siz,shP P]/\Below w.heap.size w w9/\p w9)) (told_ap hp.out (X:=w2.alloc (.cells #[.string (shP P)] 9)) (by repeat (first|assumption|apply uA|apply uD)) (hR.below (nbel _ _)) (hB.trans ((nbel _ _).mono hB.size)) w2.heap.size (thnK _ _)) ?_;rintro v9 w9 hF;have h9:=hF.out.2.2;simp only[pts])
  | (refine ap_if rfl _ _ _ _ rfl v (.slice (some ⟨W1.heap.size,0,none⟩) 1 1) rfl rfl (fun v9 w9=>Hid (SRow w9 w.heap.size v9 [shFld,t.name,shI t.id,shI t.since,shI t.off,shI t.siz,shP P]/\Below w.heap.size w w9/\p w9)) (told_ap hp.out (X:=w2) (by repeat (first|assumption|apply uA|apply uD)) hR hB W1.heap.size ((hB.block _ (by first|(simp;done)|(simp;omega))).trans (by first|exact thnK _ _|exact two_1 _ _ _|exact two_2 _ _ _))) ?_;rintro v9 w9 hF;have h9:=hF.out.2.2;simp only[pts])
  | (refine ap_if rfl _ _ _ _ rfl v (.slice (some ⟨W1.heap.size+1,0,none⟩) 1 1) rfl rfl (fun v9 w9=>Hid (SRow w9 w.heap.size v9 [shFld,t.name,shI t.id,shI t.since,shI t.off,shI t.siz,shP P]/\Below w.heap.size w w9/\p w9)) (told_ap hp.out (X:=w2) (by repeat (first|assumption|apply uA|apply uD)) hR hB (W1.heap.size+1) ((hB.block _ (by first|(simp;done)|(simp;omega))).trans (by first|exact thnK _ _|exact two_1 _ _ _|exact two_2 _ _ _))) ?_;rintro v9 w9 hF;have h9:=hF.out.2.2;simp only[pts]))
 all_goals
  go_wp2_with fail
  go_ret
  exact⟨_,rfl,hF.out.1,hF.out.2.1⟩
theorem told_4 (t:Tk) (pc:Option Addr) (cc:Nat) (w:World) (hop:t.op=4) (hN:ShN t) (_hv:0<=t.val/\t.val<18446744073709551616) (tb:ShTb w) :
  Calls Tryz.prog 51 #[tkV t pc cc] w fun e w'=>∃ v,e = .returned v/\SRow w' w.heap.size v (shT pnZ t)/\Below w.heap.size w w':=by
 have hT:shT pnZ t=[shGrp,t.name,shI t.id,shI t.since,shI t.siz,shI t.blk]:=by unfold shT;rw[if_neg (by omega),if_neg (by omega),if_pos hop]
 rw[hT]
 clear hT
 obtain⟨W1,hW,p,hp,p1⟩:=tkw_ex t pc cc w tb
 have b_id:=hN.id (by omega)
 have b_since:=hN.since (by omega)
 have b_siz:=hN.siz (by omega)
 have b_blk:=hN.blk (by omega)
 have hBk:=hp.blk W1 p1
 have z0:W1.cell? ⟨w.heap.size,0,none⟩=some (.int .i64 t.op):=cell_at hBk 0
 rw[hop] at z0 hW
 have z1:W1.cell? ⟨w.heap.size,1,none⟩=some (.string t.name):=cell_at hBk 1
 have z_id:W1.cell? ⟨w.heap.size,2,none⟩=some (.int .i64 t.id):=cell_at hBk 2
 have z_since:W1.cell? ⟨w.heap.size,5,none⟩=some (.int .i64 t.since):=cell_at hBk 5
 have z_siz:W1.cell? ⟨w.heap.size,4,none⟩=some (.int .i64 t.siz):=cell_at hBk 4
 have z_blk:W1.cell? ⟨w.heap.size,14,none⟩=some (.int .i64 t.blk):=cell_at hBk 14
 have cW:=words_at shGrp t.name [t.id,t.since,t.siz,t.blk] W1 (by simp;omega) (by simp) (hp.tab W1 p1)
 simp only[List.map_cons,List.map_nil,iV,List.length_cons,List.length_nil,Nat.zero_add,List.cons_append,List.nil_append] at cW
 replace hp:=Hid.mk hp
 replace p1:=Hid.mk p1
 clear hBk hN tb _hv
 go_enter Tryz.func51,Tryz.ntmps51
 go_wp2_with (go_at_call 86;refine cW.mono ?_;clear cW;rintro _ w2 ⟨v,rfl,hR,hB⟩;replace hR:=Hid.mk hR;replace hB:=Hid.mk hB)
 go_ret
 have q:=hp.out.low W1 p1.out
 exact⟨_,rfl,hR.out.low q.1.size,q.1.trans (hB.out.mono q.1.size)⟩
theorem told_6 (t:Tk) (pc:Option Addr) (cc:Nat) (w:World) (hop:t.op=6) (hN:ShN t) (_hv:0<=t.val/\t.val<18446744073709551616) (tb:ShTb w) :
  Calls Tryz.prog 51 #[tkV t pc cc] w fun e w'=>∃ v,e = .returned v/\SRow w' w.heap.size v (shT pnZ t)/\Below w.heap.size w w':=by
 have hT:shT pnZ t=[shDat,t.name,shI t.id,shI t.since,shI t.siz,pnZ t.prim]:=by unfold shT;rw[if_neg (by omega),if_neg (by omega),if_neg (by omega),if_pos hop]
 rw[hT]
 clear hT
 obtain⟨W1,hW,p,hp,p1⟩:=tkw_ex t pc cc w tb
 have b_id:=hN.id (by omega)
 have b_since:=hN.since (by omega)
 have b_siz:=hN.siz (by omega)
 have hBk:=hp.blk W1 p1
 have z0:W1.cell? ⟨w.heap.size,0,none⟩=some (.int .i64 t.op):=cell_at hBk 0
 rw[hop] at z0 hW
 have x_name:∀ θ:CW p,θ.w.cell? ⟨w.heap.size,1,none⟩=some (.string t.name):=fun θ=>cell_at (hp.blk θ.w θ.h) 1
 have x_id:∀ θ:CW p,θ.w.cell? ⟨w.heap.size,2,none⟩=some (.int .i64 t.id):=fun θ=>cell_at (hp.blk θ.w θ.h) 2
 have x_since:∀ θ:CW p,θ.w.cell? ⟨w.heap.size,5,none⟩=some (.int .i64 t.since):=fun θ=>cell_at (hp.blk θ.w θ.h) 5
 have x_siz:∀ θ:CW p,θ.w.cell? ⟨w.heap.size,4,none⟩=some (.int .i64 t.siz):=fun θ=>cell_at (hp.blk θ.w θ.h) 4
 have x_prim:∀ θ:CW p,θ.w.cell? ⟨w.heap.size,6,none⟩=some (.int .i64 t.prim):=fun θ=>cell_at (hp.blk θ.w θ.h) 6
 have pN:Nonempty (CW p):=⟨⟨W1,p1⟩⟩
 have hdr:Hid (∀ V,p V->p V.drew):=⟨fun V h=>hp.up V _ h (Below.refl _ _).drew⟩
 have cW:Hid (∀ V,p V->Calls Tryz.prog 86 #[.string shDat,.string t.name,.slice (some ⟨V.heap.size,0,none⟩) 3 3] (V.alloc (.cells #[.int .i64 t.id,.int .i64 t.since,.int .i64 t.siz] 3)) fun e w'=>∃ v,e = .returned v/\SRow w' V.heap.size v [shDat,t.name,shI t.id,shI t.since,shI t.siz]/\Below V.heap.size V w'):=⟨fun V h=>words_at shDat t.name [t.id,t.since,t.siz] V (by simp;omega) (by simp) (hp.tab V h)⟩
 have cN:Hid (∀ V,p V->Calls Tryz.prog 87 #[.int .i64 t.prim] V fun r w'=>r = .returned (.string (pnZ t.prim))/\w'=V):=⟨fun V h=>NameOf12 t.prim V (hp.tab V h)⟩
 replace hp:=Hid.mk hp
 have p1':Hid _:=⟨p1⟩
 clear hBk hN tb _hv p1
 go_enter Tryz.func51,Tryz.ntmps51
 go_upto_region 9 with (fail)
 have hq:=hdr.out W1 p1'.out
 refine wp_region_lwt 15 (fun V=>∃ θ:CW p,V=θ.w) [0,1,2,3,4,5,6,7,10,11,8,9,12,13,14,15] (by kernel_rfl) (by kernel_rfl) (fun _ _ d _ _ h=>by cases d<;>exact h) ⟨⟨_,hq⟩,rfl⟩ ?_
 simp only[List.filterMap_cons,List.filterMap_nil,List.getElem?_cons_zero,List.getElem?_cons_succ]
 generalize W1.drew=V at hq ⊢
 repeat (first|(guard_target =~ Lw _ _ _ _ (Oper.mk _ (Op.call _) _ _ _ _::_) _ _;fail)|(guard_target =~ Lw _ _ _ _ (Oper.mk _ (Op.buildSlice _ _ _) _ _ _ _::_) _ _;fail)|(refine lw_one rfl ?_;(first|go_big_quiet_skip|(go_big_quiet_want;go_big_quiet_op;go_big_quiet_on));refine wpQuiet_nil ?_))
 refine lw_bs (ys:=#[(0,.int .i64 t.id),(1,.int .i64 t.since),(2,.int .i64 t.siz)]) (v:=.slice (some ⟨V.heap.size,0,none⟩) 3 3) (w':=V.alloc (.cells #[.int .i64 t.id,.int .i64 t.since,.int .i64 t.siz] 3)) (by kernel_rfl) ⟨⟨_,hp.out.up _ _ hq (nbel _ _)⟩,rfl⟩ (by simp only[List.map_toArray,List.map_cons,List.map_nil];rfl) (by rfl) ?_
 simp only[pts]
 repeat (first|(guard_target =~ Lw _ _ _ _ (Oper.mk _ (Op.call _) _ _ _ _::_) _ _;fail)|(guard_target =~ Lw _ _ _ _ (Oper.mk _ (Op.buildSlice _ _ _) _ _ _ _::_) _ _;fail)|(refine lw_one rfl ?_;(first|go_big_quiet_skip|(go_big_quiet_want;go_big_quiet_op;go_big_quiet_on));refine wpQuiet_nil ?_))
 refine lw_call3 ent_words (cW.out V hq) rfl rfl rfl (by rfl) ?_
 rintro v w2 ⟨hR,hB⟩
 have h2:=hp.out.up _ _ hq hB
 refine⟨⟨⟨_,h2⟩,rfl⟩,?_⟩
 simp only[pts]
 replace hR:Hid (SRow w2 V.heap.size v _):=⟨hR⟩
 replace hB:Hid (Below V.heap.size V w2):=⟨hB⟩
 repeat (first|(guard_target =~ Lw _ _ _ _ (Oper.mk _ (Op.call _) _ _ _ _::_) _ _;fail)|(guard_target =~ Lw _ _ _ _ (Oper.mk _ (Op.buildSlice _ _ _) _ _ _ _::_) _ _;fail)|(refine lw_one rfl ?_;(first|go_big_quiet_skip|(go_big_quiet_want;go_big_quiet_op;go_big_quiet_on));refine wpQuiet_nil ?_))
 refine lw_call1 (R:=fun v w'=>v = .string (pnZ t.prim)/\w'=w2) ent_nameOf ((cN.out _ h2).mono fun e w' h=>⟨_,h.1,rfl,h.2⟩) rfl (by rfl) ?_
 rintro _ wq ⟨rfl,e⟩
 obtain rfl:w2=wq:=e.symm
 refine⟨⟨⟨_,h2⟩,rfl⟩,?_⟩
 simp only[pts]
 repeat (first|(guard_target =~ Lw _ _ _ _ (Oper.mk _ (Op.call _) _ _ _ _::_) _ _;fail)|(guard_target =~ Lw _ _ _ _ (Oper.mk _ (Op.buildSlice _ _ _) _ _ _ _::_) _ _;fail)|(refine lw_one rfl ?_;(first|go_big_quiet_skip|(go_big_quiet_want;go_big_quiet_op;go_big_quiet_on));refine wpQuiet_nil ?_))
 refine lw_bs (ys:=#[(0,.string (pnZ t.prim))]) (v:=.slice (some ⟨w2.heap.size,0,none⟩) 1 1) (w':=w2.alloc (.cells #[.string (pnZ t.prim)] 9)) (by kernel_rfl) ⟨⟨_,hp.out.up _ _ h2 (nbel _ _)⟩,rfl⟩ (by simp only[List.map_toArray,List.map_cons,List.map_nil];rfl) (by rfl) ?_
 simp only[pts]
 obtain⟨v9,w9,e1,e2,e3,-⟩:=str_ap (hR.out.below (nbel w2 (.cells #[.string (pnZ t.prim)] 9))) ⟨w2.heap.size,0,none⟩ [pnZ t.prim] 1 (World.news_of_block' (thnK w2 _) [pnZ t.prim] rfl) (by simp) (by have:=hB.out.size;rw[World.size_alloc];omega)
 have hB9:Below V.heap.size V w9:=hB.out.trans (((nbel w2 _).mono hB.out.size).trans e3)
 have h9:=hp.out.up _ _ hq hB9
 refine lw_ap (Post:=fun v w=>v=v9/\w=w9) ⟨v9,w9,e1,rfl,rfl⟩ rfl rfl (by rfl) ?_
 rintro _ _ ⟨rfl,rfl⟩
 refine⟨⟨⟨_,h9⟩,rfl⟩,?_⟩
 simp only[pts]
 repeat (first|(guard_target =~ Lw _ _ _ _ (Oper.mk _ (Op.call _) _ _ _ _::_) _ _;fail)|(guard_target =~ Lw _ _ _ _ (Oper.mk _ (Op.buildSlice _ _ _) _ _ _ _::_) _ _;fail)|(refine lw_one rfl ?_;(first|go_big_quiet_skip|(go_big_quiet_want;go_big_quiet_op;go_big_quiet_on));refine wpQuiet_nil ?_))
 refine lw_done ?_
 have q:=hp.out.low V hq
 have q9:=hp.out.low _ h9
 replace e2:=Hid.mk e2
 replace q9:=Hid.mk q9
 replace q:=Hid.mk q
 clear e1 e3 hB9 h9
 go_wp2_with fail
 go_ret
 exact⟨_,rfl,e2.out.low q.out.1.size,q9.out.1⟩
theorem told_8 (t:Tk) (pc:Option Addr) (cc:Nat) (w:World) (hop:t.op=8) (hN:ShN t) (_hv:0<=t.val/\t.val<18446744073709551616) (tb:ShTb w) :
  Calls Tryz.prog 51 #[tkV t pc cc] w fun e w'=>∃ v,e = .returned v/\SRow w' w.heap.size v (shT pnZ t)/\Below w.heap.size w w':=by
 have hT:shT pnZ t=[shCmp,t.name,shI t.off,shI t.siz]:=by unfold shT;rw[if_neg (by omega),if_neg (by omega),if_neg (by omega),if_neg (by omega),if_pos hop]
 rw[hT]
 clear hT
 obtain⟨W1,hW,p,hp,p1⟩:=tkw_ex t pc cc w tb
 have b_off:=hN.off (by omega)
 have b_siz:=hN.siz (by omega)
 have hBk:=hp.blk W1 p1
 have z0:W1.cell? ⟨w.heap.size,0,none⟩=some (.int .i64 t.op):=cell_at hBk 0
 rw[hop] at z0 hW
 have z1:W1.cell? ⟨w.heap.size,1,none⟩=some (.string t.name):=cell_at hBk 1
 have z_off:W1.cell? ⟨w.heap.size,3,none⟩=some (.int .i64 t.off):=cell_at hBk 3
 have z_siz:W1.cell? ⟨w.heap.size,4,none⟩=some (.int .i64 t.siz):=cell_at hBk 4
 have cW:=words_at shCmp t.name [t.off,t.siz] W1 (by simp;omega) (by simp) (hp.tab W1 p1)
 simp only[List.map_cons,List.map_nil,iV,List.length_cons,List.length_nil,Nat.zero_add,List.cons_append,List.nil_append] at cW
 replace hp:=Hid.mk hp
 replace p1:=Hid.mk p1
 clear hBk hN tb _hv
 go_enter Tryz.func51,Tryz.ntmps51
 go_wp2_with (go_at_call 86;refine cW.mono ?_;clear cW;rintro _ w2 ⟨v,rfl,hR,hB⟩;replace hR:=Hid.mk hR;replace hB:=Hid.mk hB)
 go_ret
 have q:=hp.out.low W1 p1.out
 exact⟨_,rfl,hR.out.low q.1.size,q.1.trans (hB.out.mono q.1.size)⟩
theorem told_10 (t:Tk) (pc:Option Addr) (cc:Nat) (w:World) (hop:t.op=10) (hN:ShN t) (_hv:0<=t.val/\t.val<18446744073709551616) (tb:ShTb w) :
  Calls Tryz.prog 51 #[tkV t pc cc] w fun e w'=>∃ v,e = .returned v/\SRow w' w.heap.size v (shT pnZ t)/\Below w.heap.size w w':=by
 have hT:shT pnZ t=[shEnu,t.name,shI t.off,shI t.siz]:=by unfold shT;rw[if_neg (by omega),if_neg (by omega),if_neg (by omega),if_neg (by omega),if_neg (by omega),if_pos hop]
 rw[hT]
 clear hT
 obtain⟨W1,hW,p,hp,p1⟩:=tkw_ex t pc cc w tb
 have b_off:=hN.off (by omega)
 have b_siz:=hN.siz (by omega)
 have hBk:=hp.blk W1 p1
 have z0:W1.cell? ⟨w.heap.size,0,none⟩=some (.int .i64 t.op):=cell_at hBk 0
 rw[hop] at z0 hW
 have z1:W1.cell? ⟨w.heap.size,1,none⟩=some (.string t.name):=cell_at hBk 1
 have z_off:W1.cell? ⟨w.heap.size,3,none⟩=some (.int .i64 t.off):=cell_at hBk 3
 have z_siz:W1.cell? ⟨w.heap.size,4,none⟩=some (.int .i64 t.siz):=cell_at hBk 4
 have cW:=words_at shEnu t.name [t.off,t.siz] W1 (by simp;omega) (by simp) (hp.tab W1 p1)
 simp only[List.map_cons,List.map_nil,iV,List.length_cons,List.length_nil,Nat.zero_add,List.cons_append,List.nil_append] at cW
 replace hp:=Hid.mk hp
 replace p1:=Hid.mk p1
 clear hBk hN tb _hv
 go_enter Tryz.func51,Tryz.ntmps51
 go_wp2_with (go_at_call 86;refine cW.mono ?_;clear cW;rintro _ w2 ⟨v,rfl,hR,hB⟩;replace hR:=Hid.mk hR;replace hB:=Hid.mk hB)
 go_ret
 have q:=hp.out.low W1 p1.out
 exact⟨_,rfl,hR.out.low q.1.size,q.1.trans (hB.out.mono q.1.size)⟩
theorem told_12 (t:Tk) (pc:Option Addr) (cc:Nat) (w:World) (hop:t.op=12) (hN:ShN t) (_hv:0<=t.val/\t.val<18446744073709551616) (tb:ShTb w) :
  Calls Tryz.prog 51 #[tkV t pc cc] w fun e w'=>∃ v,e = .returned v/\SRow w' w.heap.size v (shT pnZ t)/\Below w.heap.size w w':=by
 have hT:shT pnZ t=[shSet,t.name,shI t.off,shI t.siz]:=by unfold shT;rw[if_neg (by omega),if_neg (by omega),if_neg (by omega),if_neg (by omega),if_neg (by omega),if_neg (by omega),if_pos hop]
 rw[hT]
 clear hT
 obtain⟨W1,hW,p,hp,p1⟩:=tkw_ex t pc cc w tb
 have b_off:=hN.off (by omega)
 have b_siz:=hN.siz (by omega)
 have hBk:=hp.blk W1 p1
 have z0:W1.cell? ⟨w.heap.size,0,none⟩=some (.int .i64 t.op):=cell_at hBk 0
 rw[hop] at z0 hW
 have z1:W1.cell? ⟨w.heap.size,1,none⟩=some (.string t.name):=cell_at hBk 1
 have z_off:W1.cell? ⟨w.heap.size,3,none⟩=some (.int .i64 t.off):=cell_at hBk 3
 have z_siz:W1.cell? ⟨w.heap.size,4,none⟩=some (.int .i64 t.siz):=cell_at hBk 4
 have cW:=words_at shSet t.name [t.off,t.siz] W1 (by simp;omega) (by simp) (hp.tab W1 p1)
 simp only[List.map_cons,List.map_nil,iV,List.length_cons,List.length_nil,Nat.zero_add,List.cons_append,List.nil_append] at cW
 replace hp:=Hid.mk hp
 replace p1:=Hid.mk p1
 clear hBk hN tb _hv
 go_enter Tryz.func51,Tryz.ntmps51
 go_wp2_with (go_at_call 86;refine cW.mono ?_;clear cW;rintro _ w2 ⟨v,rfl,hR,hB⟩;replace hR:=Hid.mk hR;replace hB:=Hid.mk hB)
 go_ret
 have q:=hp.out.low W1 p1.out
 exact⟨_,rfl,hR.out.low q.1.size,q.1.trans (hB.out.mono q.1.size)⟩
theorem told_14 (t:Tk) (pc:Option Addr) (cc:Nat) (w:World) (hop:t.op=14) (hN:ShN t) (_hv:0<=t.val/\t.val<18446744073709551616) (tb:ShTb w) :
  Calls Tryz.prog 51 #[tkV t pc cc] w fun e w'=>∃ v,e = .returned v/\SRow w' w.heap.size v (shT pnZ t)/\Below w.heap.size w w':=by
 have hT:shT pnZ t=[shEnc,t.name,shI t.off,shI t.siz,pnZ t.prim,shI t.len,shP t.pres]:=by unfold shT;rw[if_neg (by omega),if_neg (by omega),if_neg (by omega),if_neg (by omega),if_neg (by omega),if_neg (by omega),if_neg (by omega),if_pos hop]
 rw[hT]
 clear hT
 obtain⟨W1,hW,p,hp,p1⟩:=tkw_ex t pc cc w tb
 have b_off:=hN.off (by omega)
 have b_siz:=hN.siz (by omega)
 have b_len:=hN.len (by omega)
 have b_pres:=hN.pres (by omega)
 have hBk:=hp.blk W1 p1
 have z0:W1.cell? ⟨w.heap.size,0,none⟩=some (.int .i64 t.op):=cell_at hBk 0
 rw[hop] at z0 hW
 obtain⟨P,hPr⟩:∃ P:Nat,t.pres=P:=⟨t.pres.toNat,by omega⟩
 have hP3:(P:Int)<3:=by omega
 have hP3n:P<3:=by omega
 have x_name:∀ θ:CW p,θ.w.cell? ⟨w.heap.size,1,none⟩=some (.string t.name):=fun θ=>cell_at (hp.blk θ.w θ.h) 1
 have x_off:∀ θ:CW p,θ.w.cell? ⟨w.heap.size,3,none⟩=some (.int .i64 t.off):=fun θ=>cell_at (hp.blk θ.w θ.h) 3
 have x_siz:∀ θ:CW p,θ.w.cell? ⟨w.heap.size,4,none⟩=some (.int .i64 t.siz):=fun θ=>cell_at (hp.blk θ.w θ.h) 4
 have x_len:∀ θ:CW p,θ.w.cell? ⟨w.heap.size,7,none⟩=some (.int .i64 t.len):=fun θ=>cell_at (hp.blk θ.w θ.h) 7
 have x_prim:∀ θ:CW p,θ.w.cell? ⟨w.heap.size,6,none⟩=some (.int .i64 t.prim):=fun θ=>cell_at (hp.blk θ.w θ.h) 6
 have x_pres:∀ θ:CW p,θ.w.cell? ⟨w.heap.size,8,none⟩=some (.int .i64 P):=fun θ=>by rw[<- hPr];exact cell_at (hp.blk θ.w θ.h) 8
 have x_ps:∀ θ:CW p,θ.w.cell? ⟨0,P,none⟩=some (.string (shP P)):=fun θ=>(hp.tab θ.w θ.h).p P hP3n
 rw[hPr]
 have pN:Nonempty (CW p):=⟨⟨W1,p1⟩⟩
 have hdr:Hid (∀ V,p V->p V.drew):=⟨fun V h=>hp.up V _ h (Below.refl _ _).drew⟩
 have cW:Hid (∀ V,p V->Calls Tryz.prog 86 #[.string shEnc,.string t.name,.slice (some ⟨V.heap.size,0,none⟩) 2 2] (V.alloc (.cells #[.int .i64 t.off,.int .i64 t.siz] 3)) fun e w'=>∃ v,e = .returned v/\SRow w' V.heap.size v [shEnc,t.name,shI t.off,shI t.siz]/\Below V.heap.size V w'):=⟨fun V h=>words_at shEnc t.name [t.off,t.siz] V (by simp;omega) (by simp) (hp.tab V h)⟩
 have cN:Hid (∀ V,p V->Calls Tryz.prog 87 #[.int .i64 t.prim] V fun r w'=>r = .returned (.string (pnZ t.prim))/\w'=V):=⟨fun V h=>NameOf12 t.prim V (hp.tab V h)⟩
 have cI:Hid (∀ V,p V->Calls Tryz.prog 88 #[.int .i64 t.len] V fun e w'=>e = .returned (.string (shI t.len))/\Below V.heap.size V w'):=⟨fun V h=>Itoa12 t.len b_len.1 b_len.2 V ((hp.tab V h).t V (Below.refl _ _))⟩
 replace hp:=Hid.mk hp
 have p1':Hid _:=⟨p1⟩
 clear hBk hN tb _hv p1 hPr
 go_enter Tryz.func51,Tryz.ntmps51
 go_upto_region 17 with (fail)
 have hq:=hdr.out W1 p1'.out
 refine wp_region_lwt 20 (fun V=>∃ θ:CW p,V=θ.w) [0,1,2,3,4,5,8,9,11,12,14,15,16,17,6,7,10,13,18,19,20] (by kernel_rfl) (by kernel_rfl) (fun _ _ d _ _ h=>by cases d<;>exact h) ⟨⟨_,hq⟩,rfl⟩ ?_
 simp only[List.filterMap_cons,List.filterMap_nil,List.getElem?_cons_zero,List.getElem?_cons_succ]
 generalize W1.drew=V at hq ⊢
 repeat (first|(guard_target =~ Lw _ _ _ _ (Oper.mk _ (Op.call _) _ _ _ _::_) _ _;fail)|(guard_target =~ Lw _ _ _ _ (Oper.mk _ (Op.buildSlice _ _ _) _ _ _ _::_) _ _;fail)|(refine lw_one rfl ?_;(first|go_big_quiet_skip|(go_big_quiet_want;go_big_quiet_op;go_big_quiet_on));refine wpQuiet_nil ?_))
 refine lw_bs (ys:=#[(0,.int .i64 t.off),(1,.int .i64 t.siz)]) (v:=.slice (some ⟨V.heap.size,0,none⟩) 2 2) (w':=V.alloc (.cells #[.int .i64 t.off,.int .i64 t.siz] 3)) (by kernel_rfl) ⟨⟨_,hp.out.up _ _ hq (nbel _ _)⟩,rfl⟩ (by simp only[List.map_toArray,List.map_cons,List.map_nil];rfl) (by rfl) ?_
 simp only[pts]
 repeat (first|(guard_target =~ Lw _ _ _ _ (Oper.mk _ (Op.call _) _ _ _ _::_) _ _;fail)|(guard_target =~ Lw _ _ _ _ (Oper.mk _ (Op.buildSlice _ _ _) _ _ _ _::_) _ _;fail)|(refine lw_one rfl ?_;(first|go_big_quiet_skip|(go_big_quiet_want;go_big_quiet_op;go_big_quiet_on));refine wpQuiet_nil ?_))
 refine lw_call3 ent_words (cW.out V hq) rfl rfl rfl (by rfl) ?_
 rintro v w2 ⟨hR,hB⟩
 have h2:=hp.out.up _ _ hq hB
 refine⟨⟨⟨_,h2⟩,rfl⟩,?_⟩
 simp only[pts]
 replace hR:Hid (SRow w2 V.heap.size v _):=⟨hR⟩
 replace hB:Hid (Below V.heap.size V w2):=⟨hB⟩
 repeat (first|(guard_target =~ Lw _ _ _ _ (Oper.mk _ (Op.call _) _ _ _ _::_) _ _;fail)|(guard_target =~ Lw _ _ _ _ (Oper.mk _ (Op.buildSlice _ _ _) _ _ _ _::_) _ _;fail)|(refine lw_one rfl ?_;(first|go_big_quiet_skip|(go_big_quiet_want;go_big_quiet_op;go_big_quiet_on));refine wpQuiet_nil ?_))
 refine lw_call1 (R:=fun v w'=>v = .string (pnZ t.prim)/\w'=w2) ent_nameOf ((cN.out _ h2).mono fun e w' h=>⟨_,h.1,rfl,h.2⟩) rfl (by rfl) ?_
 rintro _ wq ⟨rfl,e⟩
 obtain rfl:w2=wq:=e.symm
 refine⟨⟨⟨_,h2⟩,rfl⟩,?_⟩
 simp only[pts]
 repeat (first|(guard_target =~ Lw _ _ _ _ (Oper.mk _ (Op.call _) _ _ _ _::_) _ _;fail)|(guard_target =~ Lw _ _ _ _ (Oper.mk _ (Op.buildSlice _ _ _) _ _ _ _::_) _ _;fail)|(refine lw_one rfl ?_;(first|go_big_quiet_skip|(go_big_quiet_want;go_big_quiet_op;go_big_quiet_on));refine wpQuiet_nil ?_))
 refine lw_call1 (R:=fun v w'=>v = .string (shI t.len)/\Below w2.heap.size w2 w') ent_itoa ((cI.out _ h2).mono fun e w' h=>⟨_,h.1,rfl,h.2⟩) rfl (by rfl) ?_
 rintro _ w3 ⟨rfl,hb3⟩
 have h3:=hp.out.up _ _ h2 hb3
 have hR3:Hid _:=⟨hR.out.below hb3⟩
 have hB3:Hid _:=⟨hB.out.trans (hb3.mono hB.out.size)⟩
 refine⟨⟨⟨_,h3⟩,rfl⟩,?_⟩
 simp only[pts]
 repeat (first|(guard_target =~ Lw _ _ _ _ (Oper.mk _ (Op.call _) _ _ _ _::_) _ _;fail)|(guard_target =~ Lw _ _ _ _ (Oper.mk _ (Op.buildSlice _ _ _) _ _ _ _::_) _ _;fail)|(refine lw_one rfl ?_;(first|go_big_quiet_skip|(go_big_quiet_want;go_big_quiet_op;go_big_quiet_on));refine wpQuiet_nil ?_))
 repeat (first|(guard_target =~ Lw _ _ _ _ (Oper.mk _ (Op.call _) _ _ _ _::_) _ _;fail)|(guard_target =~ Lw _ _ _ _ (Oper.mk _ (Op.buildSlice _ _ _) _ _ _ _::_) _ _;fail)|(refine lw_one rfl ?_;(first|go_big_quiet_skip|(go_big_quiet_want;go_big_quiet_op;go_big_quiet_on));refine wpQuiet_nil ?_))
 refine lw_bs (ys:=#[(0,.string (pnZ t.prim)),(1,.string (shI t.len)),(2,.string (shP P))]) (v:=.slice (some ⟨w3.heap.size,0,none⟩) 3 3) (w':=w3.alloc (.cells #[.string (pnZ t.prim),.string (shI t.len),.string (shP P)] 9)) (by kernel_rfl) ⟨⟨_,hp.out.up _ _ h3 (nbel _ _)⟩,rfl⟩ (by simp only[List.map_toArray,List.map_cons,List.map_nil];rfl) (by rfl) ?_
 simp only[pts]
 obtain⟨v9,w9,e1,e2,e3,-⟩:=str_ap (hR3.out.below (nbel w3 (.cells #[.string (pnZ t.prim),.string (shI t.len),.string (shP P)] 9))) ⟨w3.heap.size,0,none⟩ [pnZ t.prim,shI t.len,shP P] 3 (World.news_of_block' (thnK w3 _) [pnZ t.prim,shI t.len,shP P] rfl) (by simp) (by have:=hB3.out.size;rw[World.size_alloc];omega)
 have hB9:Below V.heap.size V w9:=hB3.out.trans (((nbel w3 _).mono hB3.out.size).trans e3)
 have h9:=hp.out.up _ _ hq hB9
 refine lw_ap (Post:=fun v w=>v=v9/\w=w9) ⟨v9,w9,e1,rfl,rfl⟩ rfl rfl (by rfl) ?_
 rintro _ _ ⟨rfl,rfl⟩
 refine⟨⟨⟨_,h9⟩,rfl⟩,?_⟩
 simp only[pts]
 repeat (first|(guard_target =~ Lw _ _ _ _ (Oper.mk _ (Op.call _) _ _ _ _::_) _ _;fail)|(guard_target =~ Lw _ _ _ _ (Oper.mk _ (Op.buildSlice _ _ _) _ _ _ _::_) _ _;fail)|(refine lw_one rfl ?_;(first|go_big_quiet_skip|(go_big_quiet_want;go_big_quiet_op;go_big_quiet_on));refine wpQuiet_nil ?_))
 refine lw_done ?_
 have q:=hp.out.low V hq
 have q9:=hp.out.low _ h9
 replace e2:=Hid.mk e2
 replace q9:=Hid.mk q9
 replace q:=Hid.mk q
 clear e1 e3 hB9 h9
 go_wp2_with fail
 go_ret
 exact⟨_,rfl,e2.out.low q.out.1.size,q9.out.1⟩
theorem told_15 (t:Tk) (pc:Option Addr) (cc:Nat) (w:World) (hop:t.op=15) (hN:ShN t) (hv:0<=t.val/\t.val<18446744073709551616) (tb:ShTb w) :
  Calls Tryz.prog 51 #[tkV t pc cc] w fun e w'=>∃ v,e = .returned v/\SRow w' w.heap.size v (shT pnZ t)/\Below w.heap.size w w':=by
 have hT:shT pnZ t=[shCho,t.name,shI t.val,shI t.since]:=by unfold shT;rw[if_neg (by omega),if_neg (by omega),if_neg (by omega),if_neg (by omega),if_neg (by omega),if_neg (by omega),if_neg (by omega),if_neg (by omega),if_pos hop]
 rw[hT]
 clear hT
 obtain⟨W1,hW,p,hp,p1⟩:=tkw_ex t pc cc w tb
 have b_since:=hN.since (by omega)
 have hBk:=hp.blk W1 p1
 have z0:W1.cell? ⟨w.heap.size,0,none⟩=some (.int .i64 t.op):=cell_at hBk 0
 rw[hop] at z0 hW
 have x_name:∀ θ:CW p,θ.w.cell? ⟨w.heap.size,1,none⟩=some (.string t.name):=fun θ=>cell_at (hp.blk θ.w θ.h) 1
 have x_val:∀ θ:CW p,θ.w.cell? ⟨w.heap.size,13,none⟩=some (.int .u64 t.val):=fun θ=>cell_at (hp.blk θ.w θ.h) 13
 have x_since:∀ θ:CW p,θ.w.cell? ⟨w.heap.size,5,none⟩=some (.int .i64 t.since):=fun θ=>cell_at (hp.blk θ.w θ.h) 5
 have pN:Nonempty (CW p):=⟨⟨W1,p1⟩⟩
 have hdr:Hid (∀ V,p V->p V.drew):=⟨fun V h=>hp.up V _ h (Below.refl _ _).drew⟩
 have cW:Hid (∀ V,p V->Calls Tryz.prog 86 #[.string shCho,.string t.name,.slice none 0 0] V fun e w'=>∃ v,e = .returned v/\SRow w' V.heap.size v [shCho,t.name]/\Below V.heap.size V w'):=⟨fun V h=>words_0 shCho t.name V (hp.tab V h)⟩
 have cI:Hid (∀ V,p V->Calls Tryz.prog 88 #[.int .i64 t.since] V fun e w'=>e = .returned (.string (shI t.since))/\Below V.heap.size V w'):=⟨fun V h=>Itoa12 t.since b_since.1 b_since.2 V ((hp.tab V h).t V (Below.refl _ _))⟩
 have cF:Hid (∀ V,p V->Calls Tryz.prog 89 #[.int .u64 t.val,.int .i64 10] V fun e w'=>e = .returned (.string (shI t.val))/\Below V.heap.size V w'):=⟨fun V h=>by
  obtain⟨m,hm⟩:∃ m:Nat,t.val=m:=⟨t.val.toNat,by omega⟩
  have e:shI t.val=shD m:=by unfold shI;rw[hm,Int.toNat_natCast]
  rw[e,hm]
  exact FormatUint12 m (by omega) V ((hp.tab V h).t V (Below.refl _ _))⟩
 replace hp:=Hid.mk hp
 have p1':Hid _:=⟨p1⟩
 clear hBk hN tb hv p1
 go_enter Tryz.func51,Tryz.ntmps51
 go_upto_region 19 with (fail)
 have hq:=hdr.out W1 p1'.out
 refine wp_region_lwt 11 (fun V=>∃ θ:CW p,V=θ.w) [0,1,3,4,6,7,2,5,8,9,10,11] (by kernel_rfl) (by kernel_rfl) (fun _ _ d _ _ h=>by cases d<;>exact h) ⟨⟨_,hq⟩,rfl⟩ ?_
 simp only[List.filterMap_cons,List.filterMap_nil,List.getElem?_cons_zero,List.getElem?_cons_succ]
 generalize W1.drew=V at hq ⊢
 repeat (first|(guard_target =~ Lw _ _ _ _ (Oper.mk _ (Op.call _) _ _ _ _::_) _ _;fail)|(guard_target =~ Lw _ _ _ _ (Oper.mk _ (Op.buildSlice _ _ _) _ _ _ _::_) _ _;fail)|(refine lw_one rfl ?_;(first|go_big_quiet_skip|(go_big_quiet_want;go_big_quiet_op;go_big_quiet_on));refine wpQuiet_nil ?_))
 repeat (first|(guard_target =~ Lw _ _ _ _ (Oper.mk _ (Op.call _) _ _ _ _::_) _ _;fail)|(guard_target =~ Lw _ _ _ _ (Oper.mk _ (Op.buildSlice _ _ _) _ _ _ _::_) _ _;fail)|(refine lw_one rfl ?_;(first|go_big_quiet_skip|(go_big_quiet_want;go_big_quiet_op;go_big_quiet_on));refine wpQuiet_nil ?_))
 refine lw_call3 ent_words (cW.out V hq) rfl rfl rfl (by rfl) ?_
 rintro v w2 ⟨hR,hB⟩
 have h2:=hp.out.up _ _ hq hB
 refine⟨⟨⟨_,h2⟩,rfl⟩,?_⟩
 simp only[pts]
 replace hR:Hid (SRow w2 V.heap.size v _):=⟨hR⟩
 replace hB:Hid (Below V.heap.size V w2):=⟨hB⟩
 repeat (first|(guard_target =~ Lw _ _ _ _ (Oper.mk _ (Op.call _) _ _ _ _::_) _ _;fail)|(guard_target =~ Lw _ _ _ _ (Oper.mk _ (Op.buildSlice _ _ _) _ _ _ _::_) _ _;fail)|(refine lw_one rfl ?_;(first|go_big_quiet_skip|(go_big_quiet_want;go_big_quiet_op;go_big_quiet_on));refine wpQuiet_nil ?_))
 refine lw_call2 (R:=fun v w'=>v = .string (shI t.val)/\Below w2.heap.size w2 w') ent_fmtu ((cF.out _ h2).mono fun e w' h=>⟨_,h.1,rfl,h.2⟩) rfl rfl (by rfl) ?_
 rintro _ w3 ⟨rfl,hb3⟩
 have h3:=hp.out.up _ _ h2 hb3
 have hR3:Hid _:=⟨hR.out.below hb3⟩
 have hB3:Hid _:=⟨hB.out.trans (hb3.mono hB.out.size)⟩
 refine⟨⟨⟨_,h3⟩,rfl⟩,?_⟩
 simp only[pts]
 repeat (first|(guard_target =~ Lw _ _ _ _ (Oper.mk _ (Op.call _) _ _ _ _::_) _ _;fail)|(guard_target =~ Lw _ _ _ _ (Oper.mk _ (Op.buildSlice _ _ _) _ _ _ _::_) _ _;fail)|(refine lw_one rfl ?_;(first|go_big_quiet_skip|(go_big_quiet_want;go_big_quiet_op;go_big_quiet_on));refine wpQuiet_nil ?_))
 refine lw_call1 (R:=fun v w'=>v = .string (shI t.since)/\Below w3.heap.size w3 w') ent_itoa ((cI.out _ h3).mono fun e w' h=>⟨_,h.1,rfl,h.2⟩) rfl (by rfl) ?_
 rintro _ w4 ⟨rfl,hb4⟩
 have h4:=hp.out.up _ _ h3 hb4
 have hR4:Hid _:=⟨hR3.out.below hb4⟩
 have hB4:Hid _:=⟨hB3.out.trans (hb4.mono hB3.out.size)⟩
 refine⟨⟨⟨_,h4⟩,rfl⟩,?_⟩
 simp only[pts]
 repeat (first|(guard_target =~ Lw _ _ _ _ (Oper.mk _ (Op.call _) _ _ _ _::_) _ _;fail)|(guard_target =~ Lw _ _ _ _ (Oper.mk _ (Op.buildSlice _ _ _) _ _ _ _::_) _ _;fail)|(refine lw_one rfl ?_;(first|go_big_quiet_skip|(go_big_quiet_want;go_big_quiet_op;go_big_quiet_on));refine wpQuiet_nil ?_))
 refine lw_bs (ys:=#[(0,.string (shI t.val)),(1,.string (shI t.since))]) (v:=.slice (some ⟨w4.heap.size,0,none⟩) 2 2) (w':=w4.alloc (.cells #[.string (shI t.val),.string (shI t.since)] 9)) (by kernel_rfl) ⟨⟨_,hp.out.up _ _ h4 (nbel _ _)⟩,rfl⟩ (by simp only[List.map_toArray,List.map_cons,List.map_nil];rfl) (by rfl) ?_
 simp only[pts]
 obtain⟨v9,w9,e1,e2,e3,-⟩:=str_ap (hR4.out.below (nbel w4 (.cells #[.string (shI t.val),.string (shI t.since)] 9))) ⟨w4.heap.size,0,none⟩ [shI t.val,shI t.since] 2 (World.news_of_block' (thnK w4 _) [shI t.val,shI t.since] rfl) (by simp) (by have:=hB4.out.size;rw[World.size_alloc];omega)
 have hB9:Below V.heap.size V w9:=hB4.out.trans (((nbel w4 _).mono hB4.out.size).trans e3)
 have h9:=hp.out.up _ _ hq hB9
 refine lw_ap (Post:=fun v w=>v=v9/\w=w9) ⟨v9,w9,e1,rfl,rfl⟩ rfl rfl (by rfl) ?_
 rintro _ _ ⟨rfl,rfl⟩
 refine⟨⟨⟨_,h9⟩,rfl⟩,?_⟩
 simp only[pts]
 repeat (first|(guard_target =~ Lw _ _ _ _ (Oper.mk _ (Op.call _) _ _ _ _::_) _ _;fail)|(guard_target =~ Lw _ _ _ _ (Oper.mk _ (Op.buildSlice _ _ _) _ _ _ _::_) _ _;fail)|(refine lw_one rfl ?_;(first|go_big_quiet_skip|(go_big_quiet_want;go_big_quiet_op;go_big_quiet_on));refine wpQuiet_nil ?_))
 refine lw_done ?_
 have q:=hp.out.low V hq
 have q9:=hp.out.low _ h9
 replace e2:=Hid.mk e2
 replace q9:=Hid.mk q9
 replace q:=Hid.mk q
 clear e1 e3 hB9 h9
 go_wp2_with fail
 go_ret
 exact⟨_,rfl,e2.out.low q.out.1.size,q9.out.1⟩
theorem told_e (t:Tk) (pc:Option Addr) (cc:Nat) (w:World) (he:edO t.op=true) (tb:ShTb w) :
  Calls Tryz.prog 51 #[tkV t pc cc] w fun e w'=>∃ v,e = .returned v/\SRow w' w.heap.size v (shT pnZ t)/\Below w.heap.size w w':=by
 unfold edO at he
 have he:=decT he
 have hT:shT pnZ t=[shEnd,t.name]:=by unfold shT;rw[if_neg (by omega),if_neg (by omega),if_neg (by omega),if_neg (by omega),if_neg (by omega),if_neg (by omega),if_neg (by omega),if_neg (by omega),if_neg (by omega)]
 rw[hT]
 clear hT
 obtain⟨W1,hW,p,hp,p1⟩:=tkw_ex t pc cc w tb
 have hBk:=hp.blk W1 p1
 have z0:W1.cell? ⟨w.heap.size,0,none⟩=some (.int .i64 t.op):=cell_at hBk 0
 have z1:W1.cell? ⟨w.heap.size,1,none⟩=some (.string t.name):=cell_at hBk 1
 have n0:(t.op==0)=false:=beqN (by omega)
 have n2:(t.op==2)=false:=beqN (by omega)
 have n4:(t.op==4)=false:=beqN (by omega)
 have n6:(t.op==6)=false:=beqN (by omega)
 have n8:(t.op==8)=false:=beqN (by omega)
 have n10:(t.op==10)=false:=beqN (by omega)
 have n12:(t.op==12)=false:=beqN (by omega)
 have n14:(t.op==14)=false:=beqN (by omega)
 have n15:(t.op==15)=false:=beqN (by omega)
 have cW:=words_0 shEnd t.name W1 (hp.tab W1 p1)
 replace hp:=Hid.mk hp
 replace p1:=Hid.mk p1
 clear hBk tb he
 go_enter Tryz.func51,Tryz.ntmps51
 go_wp2_with (go_at_call 86;refine cW.mono ?_;clear cW;rintro _ w2 ⟨v,rfl,hR,hB⟩;replace hR:=Hid.mk hR;replace hB:=Hid.mk hB)
 go_ret
 have q:=hp.out.low W1 p1.out
 exact⟨_,rfl,hR.out.low q.1.size,q.1.trans (hB.out.mono q.1.size)⟩
theorem told_any (t:Tk) (pc:Option Addr) (cc:Nat) (w:World) (hN:ShN t) (hv:0<=t.val/\t.val<18446744073709551616) (tb:ShTb w) :
  Calls Tryz.prog 51 #[tkV t pc cc] w fun e w'=>∃ v,e = .returned v/\SRow w' w.heap.size v (shT pnZ t)/\Below w.heap.size w w':=by
 have ho:=hN.op
 by_cases he:edO t.op=true
 ·exact told_e t pc cc w he tb
 ·have he':t.op=0\/t.op=2\/t.op=4\/t.op=6\/t.op=8\/t.op=10\/t.op=12\/t.op=14\/t.op=15:=by
   unfold edO at he
   rw[decide_eq_true_eq] at he
   omega
  rcases he' with e|e|e|e|e|e|e|e|e
  ·exact told_0 t pc cc w e hN hv tb
  ·exact told_2 t pc cc w e hN hv tb
  ·exact told_4 t pc cc w e hN hv tb
  ·exact told_6 t pc cc w e hN hv tb
  ·exact told_8 t pc cc w e hN hv tb
  ·exact told_10 t pc cc w e hN hv tb
  ·exact told_12 t pc cc w e hN hv tb
  ·exact told_14 t pc cc w e hN hv tb
  ·exact told_15 t pc cc w e hN hv tb
end Go.Proofs.YtjnafpefolgcoaaGreatDoor

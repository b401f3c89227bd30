import Derived.Test.YtjlbcdnkglaheaaGreatDoorK34
import Derived.Sort.QuietIn
namespace Go.Proofs.YtjlbcdnkglaheaaGreatDoor
set_option maxRecDepth 1000000
set_option maxHeartbeats 16000000
open Go.ChangeShapes Go.WideShapes Go.ChangeAt Go.RowKit Go.Shelf Go.Maps
def notDfr (o:Oper):Bool:=match o.op with
 | .defer _=>false
 | _=>true
theorem notDfr_ne {o:Oper} (h:notDfr o=true):∀ c,o.op ≠ .defer c:=fun c e=>by
 unfold notDfr at h
 rw[e] at h
 cases h
theorem rows_round {l₀ n:Nat} {P:Program} {row:String} {args:Array Value} {w:World} {R:Value->World->Prop} (h:Rows P row args w R):RowsIn (Fence.wide.inRound l₀) n P row args w R :=
 fun c cs _=>let ⟨v,w',r,s⟩:=h c cs;⟨v,w',r,stepsIn_wide.2 s⟩
theorem operIn_wp {n l₀:Nat} {P:Program} {o:Oper} {a:Act} {w:World} {K K2:Act->World->Prop} {Q:Exit->Act->World->Prop} (hd:notDfr o=true) (h:o.wp P a w K (fun e a w=>e ≠ .outgrown/\Q e a w)) (hk:∀ a w,K a w->K2 a w):o.wpIn (Fence.wide.inRound l₀) n P a w K2 Q:=by
 unfold Oper.wp at h
 unfold Oper.wpIn
 rw[Oper.semAt_eq _ _ _ (notDfr_ne hd)]
 refine⟨fun _ _=>trivial,?_⟩
 generalize (execOp a.eval o).run P w=R at h ⊢
 cases R with
 | ok x w' =>
  cases x with
  | value v=>exact hk _ _ h
  | skip=>exact hk _ _ h
  | defer d=>exact hk _ _ h
  | enter f args =>
   refine⟨fun e=>by simp[Fence.wide] at e,((callsIn_wide (n:=n-1)).2 h).mono ?_⟩
   intro e w2 h2
   cases e with
   | returned v=>exact hk _ _ h2
   | panicked c=>exact h2.2
   | outgrown=>obtain⟨_,_,h3,_⟩:=h2;exact absurd rfl h3
  | row r args=>exact⟨fun e=>by simp[Fence.wide] at e,rows_round (Rows.mono h fun v w' h'=>hk _ _ h')⟩
  | _=>exact h.elim
 | halt d w' =>
  cases d with
  | panic v=>exact h.2
  | _=>exact h.elim
theorem anyIn_any {n l₀:Nat} {P:Program} {md:Region.Mode} {ops:Array Oper} {Q:Exit->Act->World->Prop} (hd:∀ (i:Nat) o,ops[i]?=some o->notDfr o=true):∀ (fuel:Nat) (listed:Array Bool) (a:Act) (w:World),
  wpAny P md ops (fun e a w=>e ≠ .outgrown/\Q e a w) fuel listed a w->wpAnyIn (Fence.wide.inRound l₀) n P md ops Q fuel listed a w
 | 0,_,_,_,h=>⟨h.1,h.2.2⟩
 | fuel+1,listed,a,w,h=>by
  refine⟨fun e=>(h.1 e).2,fun i hi=>?_⟩
  have h1:=h.2 i hi
  unfold wpOp at h1
  unfold wpOpIn
  split
  ·rename_i ho
   simp only[ho] at h1
   exact anyIn_any hd fuel _ _ _ h1
  ·rename_i o ho
   simp only[ho] at h1
   split
   ·rename_i hw
    simp only[hw,if_true] at h1
    rcases h1 with h1|⟨_,_,_,h2,_⟩
    ·exact operIn_wp (hd i o ho) h1 fun a w h=>anyIn_any hd fuel _ a w h
    ·exact absurd rfl h2
   ·rename_i hw
    simp only[hw] at h1
    exact⟨fun _ _=>trivial,anyIn_any hd fuel _ _ _ h1⟩
theorem wpIn_region_lyR {l₀ n:Nat} {P:Program} {Q:Exit->Act->World->Prop} {id:Nat} {a:Act} {w:World} {l:List Oper} (hd:l.all notDfr=true) (C:World->Prop) (hm:P.follows .mixedOrders=true) (hv:(Region.noSelect l.toArray&&schB .any l.toArray (List.range l.length) (Array.replicate l.length false))=true)
  (hQ:∀ c (a:Act) d v w,Q (.panic c) (a.put d v) w->Q (.panic c) a w) (hp:C w.drew) (h:Ly P l.toArray (fun e a w=>e ≠ .outgrown/\Q e a w) C l a w.drew):(Code.region id l.toArray true).wpIn (Fence.wide.inRound l₀) n P Q a w:=by
 rw[Bool.and_eq_true] at hv
 refine wpIn_region_any hm (anyIn_any (fun i o ho=>List.all_eq_true.1 hd o (List.mem_of_getElem? (by simpa using ho))) _ _ _ _ ?_)
 refine wpAny_of_held (S:=C) _ _ _ _ ?_
 have:=wpAnyH_ly (Q:=fun e a w=>e ≠ .outgrown/\Q e a w) hv.1 (fun c a d v w h=>⟨h.1,hQ c a d v w h.2⟩) _ _ C _ a w.drew (range_map l) hv.2 hp h.out
 rw[List.length_range] at this
 simpa using this
def Mks (n₀:Nat):List Deferred->World->Prop
 | [],_=>True
 | d::ds,W=>∃ D,d={ target:=.collected D,args:=#[] }/\n₀<=D/\W.heap[D]?=some (.deferred (some []))/\(∀ d'∈ds,d'.target ≠ .collected D)/\Mks n₀ ds W
theorem Mks.put {n₀ D:Nat} {o:Obj}:∀ {ds:List Deferred} {W:World},Mks n₀ ds W->(∀ d'∈ds,d'.target ≠ .collected D)->Mks n₀ ds (W.putObj D o)
 | [],_,_,_=>trivial
 | d::ds,W,⟨D',h1,h2,h3,h4,h5⟩,hn=>by
  refine⟨D',h1,h2,(World.putObj_heap_other fun e=>hn d (List.mem_cons_self ..) ?_).trans h3,h4,Mks.put h5 fun d' hd'=>hn d' (List.mem_cons_of_mem _ hd')⟩
  rw[h1,e]
theorem lv_mks {n n₀:Nat} {fn:Func} {tmps:Array Value} {R:Ending->World->Prop}:∀ (ds:List Deferred) (W:World),Mks n₀ ds W ->
  (∀ W',Below n₀ W W'->LeavesIn Fence.wide n Tryz.prog fn tmps R [] .returning W')->LeavesInM Fence.wide n Tryz.prog fn tmps R ds .returning W
 | [],W,_,h=>h W (Below.refl _ _)
 | d::ds,W,⟨D,h1,h2,h3,h4,h5⟩,h=>by
  subst h1
  have hput:Below n₀ W (W.putObj D (.deferred none)):=⟨rfl,rfl,rfl,by simp[World.putObj],fun k hk=>World.putObj_heap_other (by omega)⟩
  exact⟨by simp,.inl ⟨D,_,rfl,run_takeDeferred h3,lv_mks ds _ (h5.put h4) fun W' hb=>h W' (hput.trans hb)⟩⟩
def fitA (l:List SpW):Bool:=l.all fun s=>fitsF (sz s.p) (rd s.p) s.x
def putA (hi:Bool) (st en:Nat) (bl:Int):(Nat->Int)->List SpW->(Nat->Int)
 | fb,[]=>fb
 | fb,s::r=>putA hi st en bl (C.putF hi st en fb (wrap64 (bl+s.o)) s.p s.x) r
theorem putA_app (hi:Bool) (st en:Nat) (bl:Int):∀ (a:List SpW) (f:Nat->Int) (b:List SpW),putA hi st en bl f (a++b)=putA hi st en bl (putA hi st en bl f a) b
 | [],_,_=>rfl
 | _::r,_,b=>putA_app hi st en bl r _ b
def efdZ (hi:Bool) (st en:Nat) (bl:Int) (fb:Nat->Int) (ls:List Lf) (ws:List Int):Int×(Nat->Int) :=
 if (ws.length:Int)=wdsL ls then (if fitA (spwA ls ws)=true then (0,putA hi st en bl fb (spwA ls ws)) else (162,fb)) else (161,fb)
theorem C_blw {w w':World} {c o g len cap st en B:Nat} {hi:Bool} {f:Nat->Int} (h:C.Cs w c o g len cap st en hi f) (hb:Below B w w') (hc:c<B) (hg:g<B):C.Cs w' c o g len cap st en hi f :=
 ⟨Nat.lt_of_lt_of_le h.lt hb.size,(hb.cell (p:=⟨c,o,none⟩) hc).trans h.buf,(hb.cell (p:=⟨c,o+1,none⟩) hc).trans h.fro,(hb.cell (p:=⟨c,o+2,none⟩) hc).trans h.too,(hb.cell (p:=⟨c,o+3,none⟩) hc).trans h.ord,
  (hb.frozen (p:=⟨c,o+2,none⟩) hc).trans h.frz,C.rowM_below h.row hb hg,h.bd,h.ne,h.h1,h.h2,h.h3,h.h4⟩
structure EnB (e cu g:Nat) (U:Nat->Prop) (S1 B:Nat):Prop where
 e:e<B
 c:cu<B
 g:g<B
 u:∀ k,U k->k<B
 s:S1<=B
theorem En.blt {f:Fm} {n:Pn} {S0 S1 pa pm e ma cu:Nat} {s:Ms} {U:Nat->Prop} {g len cap st en:Nat} {hi:Bool} {fb:Nat->Int} {wt bl:Int} {W:World} (h:En f n S0 S1 pa pm e ma cu s U g len cap st en hi fb wt bl W):EnB e cu g U S1 W.heap.size:=by
 obtain⟨lo,hi',h1,h2,h3⟩:=h.mc
 exact⟨(Array.getElem?_eq_some_iff.1 h.eo).1,h.cs.lt,h.cs.row.lt,h1.lt,h.size⟩
theorem En.blw {f:Fm} {n:Pn} {S0 S1 pa pm e ma cu:Nat} {s:Ms} {U:Nat->Prop} {g len cap st en:Nat} {hi:Bool} {fb:Nat->Int} {wt bl:Int} {W W':World} {B:Nat} (h:En f n S0 S1 pa pm e ma cu s U g len cap st en hi fb wt bl W) (b:EnB e cu g U S1 B) (hb:Below B W W'):En f n S0 S1 pa pm e ma cu s U g len cap st en hi fb wt bl W':=by
 obtain⟨lo,hi',h1,h2,h3⟩:=h.mc
 have hh:=h1.hi_lt
 have hs:=b.s
 exact⟨h.ev.below (hb.mono b.s),(hb.block _ b.e).trans h.eo,⟨lo,hi',h1.same hb.size (fun k hk=>hb.block k (b.u k hk)) (fun k e1 e2=>hb.block k (by omega)),h2,h3⟩,C_blw h.cs hb b.c b.g,h.up,h.ne,h.kt.below (B:=B) (by have:=h.kp;omega) hb,h.kp⟩
theorem Frm.blw {V:Nat->Prop} {W W1 W2:World} {B:Nat} (h:Frm V W W1) (hB:W.heap.size<=B) (hb:Below B W1 W2):Frm V W W2 :=
 ⟨hb.os.trans h.os,hb.tape.trans h.tape,hb.output.trans h.output,Nat.le_trans h.size hb.size,fun k hk hn=>(hb.block k (by omega)).trans (h.block k hk hn)⟩
structure WsC (V:Nat->Prop) (q:Option Addr) (cp:Nat) (ws:List Int) (W:World):Prop where
 len:ws.length<=cp
 cap:cp<=1000000000000000
 bd:∀ x∈ws,0<=x/\x<18446744073709551616
 at':∀ (j:Nat) (x:Int),ws[j]?=some x->∃ gw ow,q=some ⟨gw,ow,none⟩/\¬ V gw/\W.cell? ⟨gw,ow+j,none⟩=some (.int .u64 x)
theorem WsC.below {V:Nat->Prop} {q:Option Addr} {cp:Nat} {ws:List Int} {W W':World} (h:WsC V q cp ws W) (hb:Below W.heap.size W W'):WsC V q cp ws W' :=
 ⟨h.len,h.cap,h.bd,fun j x hx=>by obtain⟨gw,ow,e,n,c⟩:=h.at' j x hx;exact⟨gw,ow,e,n,(hb.cell (cell_lt c)).trans c⟩⟩
theorem spwL_mem (p:Int):∀ (ws:List Int) (o:Int) (s:SpW),s∈spwL p o ws->s.x∈ws
 | [],_,_,h=>by cases h
 | x::r,o,s,h=>by
  rw[spwL] at h
  rcases List.mem_cons.1 h with rfl|h
  ·exact List.mem_cons_self ..
  ·exact List.mem_cons_of_mem _ (spwL_mem p r _ s h)
theorem spwA_mem:∀ (ls:List Lf) (ws:List Int) (s:SpW),s∈spwA ls ws->s.x∈ws
 | [],_,_,h=>by cases h
 | x::r,ws,s,h=>by
  rw[spwA] at h
  rcases List.mem_append.1 h with h|h
  ·exact List.mem_of_mem_take (spwL_mem _ _ _ _ h)
  ·exact List.mem_of_mem_drop (spwA_mem r _ _ h)
theorem wnL_eq:∀ ls:List Lf,(∀ x∈ls,1<=x.n/\x.n<=65535)->(wnL ls:Int)=wdsL ls
 | [],_=>rfl
 | x::r,h=>by
  have:=wnL_eq r fun y hy=>h y (List.mem_cons_of_mem _ hy)
  have:=h x (List.mem_cons_self ..)
  rw[wnL,wdsL]
  omega
theorem lf_read {W:World} {S0:Nat} {v:Value} {ls:List Lf} (h:W.ownsRow S0 144 3 v ls.length (lfCs ls)):∃ pa cpa,v = .slice pa ls.length cpa/\∀ (i:Nat) (x:Lf),ls[i]?=some x->∃ g,pa=some ⟨g,0,none⟩/\v.ownBlock=some g/\W.cell? ⟨g,i*3,none⟩=some (.int .i64 x.p)/\W.cell? ⟨g,i*3+1,none⟩=some (.int .i64 x.o)/\W.cell? ⟨g,i*3+2,none⟩=some (.int .i64 x.n):=by
 rcases h.2 with ⟨rfl,h0⟩|⟨g,cap,cur,rfl,_⟩
 ·exact⟨none,0,by rw[h0],fun i x hx=>by rw[List.length_eq_zero_iff.1 h0] at hx;simp at hx⟩
 ·refine⟨some ⟨g,0,none⟩,cap,rfl,fun i x hx=>⟨g,rfl,rfl,?_⟩⟩
  obtain⟨c1,c2,c3⟩:=lfCs_get ls i x hx
  have il:=(List.getElem?_eq_some_iff.1 hx).1
  exact⟨(h.cellAt _ (by omega)).trans c1,(h.cellAt _ (by omega)).trans c2,(h.cellAt _ (by omega)).trans c3⟩
theorem Kfr.below {B:Nat} {W W':World} (h:Below W.heap.size W W'):KeepsFrom B W W':=⟨h.size,fun k _ _ e _=>(h.block k (Array.getElem?_eq_some_iff.1 e).1).trans e⟩
theorem Kfr.only {B g:Nat} {W W':World} (h:C.Only g W W') (hg:g<B):KeepsFrom B W W':=⟨h.size,fun k _ hk e _=>(h.block k (Array.getElem?_eq_some_iff.1 e).1 (by omega)).trans e⟩
theorem Kps.only {V:Nat->Prop} {g:Nat} {W W':World} (h:C.Only g W W') (hg:V g):Kps V W W':=⟨h.size,fun k _ e _ hn=>(h.block k (Array.getElem?_eq_some_iff.1 e).1 (fun e'=>hn (e'▸hg))).trans e⟩
attribute [local go_sem] Oper.semAt_some
theorem ent_put:∀ ag w,(callFunc 36 ag).run Tryz.prog w = .ok (.enter 36 ag) w:=enters_of Tryz.func36 (by kernel_rfl) rfl
theorem wp_region_lzN {P:Program} {Q:Exit->Act->World->Prop} {id:Nat} {a:Act} {w:World} {l:List Oper} (C:World->Prop) (sc:List Nat) (hm:P.follows .mixedOrders=true) (hv:(Region.noSelect l.toArray&&schB .any l.toArray sc (Array.replicate l.length false)&&(sc.length==l.length)&&sc.all (fun i=>decide (i<l.length)))=true)
  (hp:C w.drew) (h:Ly P l.toArray (fun e a w=>e = .normal/\Q .normal a w) C (sc.filterMap fun i=>l[i]?) a w.drew):(Code.region id l.toArray true).wp P Q a w :=
 wp_mono (wp_region_lz C sc hm hv (fun _ _ _ _ _ h=>by cases h.1) hp h) fun e a w h=>by obtain⟨rfl,h⟩:=h;exact h
theorem wp_region_lyN {P:Program} {Q:Exit->Act->World->Prop} {id:Nat} {a:Act} {w:World} {l:List Oper} (C:World->Prop) (hm:P.follows .mixedOrders=true) (hv:(Region.noSelect l.toArray&&schB .any l.toArray (List.range l.length) (Array.replicate l.length false))=true)
  (hp:C w.drew) (h:Ly P l.toArray (fun e a w=>e = .normal/\Q .normal a w) C l a w.drew):(Code.region id l.toArray true).wp P Q a w :=
 wp_mono (wp_region_ly C hm hv (fun _ _ _ _ _ h=>by cases h.1) hp h) fun e a w h=>by obtain⟨rfl,h⟩:=h;exact h
abbrev KF1 (H B:Nat) (x:Int) (u:Nat->Value):Array Value:=(u 0::u 1 :: .pointer (some ⟨H,0,none⟩)::u 3 :: .pointer (some ⟨H+1+1,0,none⟩)::u 5 :: .pointer (some ⟨B,0,none⟩) :: .int .u64 x::u 8::u 9::u 10::u 11::u 12::u 13::u 14::u 15::u 16::u 17::u 18::u 19::u 20::u 21::u 22::u 23::u 24::u 25::u 26::u 27::u 28::u 29::u 30::u 31::u 32::u 33::u 34::u 35::u 36::u 37::u 38::u 39::u 40::u 41::u 42::u 43::u 44::u 45::u 46::u 47::u 48::u 49::u 50::u 51::u 52::u 53::u 54::u 55::u 56::u 57::[]).toArray
abbrev KF2 (H B:Nat) (x:Int) (u:Nat->Value):Array Value:=(u 0::u 1 :: .pointer (some ⟨H,0,none⟩)::u 3 :: .pointer (some ⟨H+1+1,0,none⟩)::u 5::u 6::u 7 :: .pointer (some ⟨B,0,none⟩) :: .int .u64 x::u 10::u 11::u 12::u 13::u 14::u 15::u 16::u 17::u 18::u 19::u 20::u 21::u 22::u 23::u 24::u 25::u 26::u 27::u 28::u 29::u 30::u 31::u 32::u 33::u 34::u 35::u 36::u 37::u 38::u 39::u 40::u 41::u 42::u 43::u 44::u 45::u 46::u 47::u 48::u 49::u 50::u 51::u 52::u 53::u 54::u 55::u 56::u 57::[]).toArray
abbrev spO (s:SpW):Obj:=.cells #[.int .i64 s.p,.int .i64 s.o] 25
theorem field_in {f:Fm} {n:Pn} {S0 S1 pa pm e ma cu:Nat} {s:Ms} {U:Nat->Prop} {g len cap st en:Nat} {hi:Bool} {fb:Nat->Int} {wt bl:Int} {W:World} {t:Tk} {gb m b k:Nat} {u:Tk} {v:Value} (hE:En f n S0 S1 pa pm e ma cu s U g len cap st en hi fb wt bl W) (c:Cl) (L:∀ V,W.heap.size<=V.heap.size->(∀ x,S0<=x->x<S1->V.heap[x]?=W.heap[x]?)->Lk f S0 S1 pm (insZ s) t c.nm gb m b k u v V)
  (q:Option Addr) (cp:Nat) (ws:List Int) (hq:c.ws = .slice q ws.length cp) (hw:WsC (fun k=>k=g) q cp ws W) (hn:∀ x∈ptL f.toks k u,1<=x.n/\x.n<=65535) (hl:(ptL f.toks k u).length<=1000000000000) :
  CallsIn Fence.wide 9 Tryz.prog 16 #[pV e,caV c] W fun r w'=>r = .returned (.int .i64 (efdZ hi st en bl fb (ptL f.toks k u) ws).1)/\En f n S0 S1 pa pm e ma cu s U g len cap st en hi (efdZ hi st en bl fb (ptL f.toks k u) ws).2 wt bl w'/\Frm (Wr e cu g U) W w':=by
 obtain⟨W1,hW1⟩:∃ W1,W1=((W.alloc (.cells #[pV e] 34)).alloc (caO c)).alloc (.cells #[.int .i64 0] 35):=⟨_,rfl⟩
 have b1:Below W.heap.size W W1:=by rw[hW1];exact((Below.refl _ _).alloc (Nat.le_refl _) _ |>.alloc (by simp) _).alloc (by simp;omega) _
 have s1:W1.heap.size=W.heap.size+3:=by rw[hW1];simp
 have c0:W1.heap[W.heap.size]?=some (.cells #[pV e] 34):=by rw[hW1];exact(heap_alloc_old _ _ (by simp;omega)).trans (two_1 W _ _)
 have c1:W1.heap[W.heap.size+1]?=some (caO c):=by rw[hW1];exact(heap_alloc_old _ _ (by simp)).trans (two_2 W _ _)
 have c2:W1.heap[W.heap.size+2]?=some (.cells #[.int .i64 0] 35):=by rw[hW1];have:=heap_al ((W.alloc (.cells #[pV e] 34)).alloc (caO c)) (.cells #[.int .i64 0] 35);simpa only [World.size_alloc] using this
 have E1:=hE.below b1
 have hS:=hE.size
 have L1:Hid (∀ V,Below W1.heap.size W1 V->Lk f S0 S1 pm (insZ s) t c.nm gb m b k u v V):=⟨fun V hb=>L V (Nat.le_trans b1.size hb.size) fun x _ hx=>(hb.block x (by omega)).trans (b1.block x (by omega))⟩
 have cH:Hid (∀ V,Below W1.heap.size W1 V->Calls Tryz.prog 33 #[pV e] V fun r w'=>∃ x,r = .returned x/\(x=pV gb/\Below V.heap.size V w')):=⟨fun V hb=>by
  have EV:=E1.below hb
  obtain⟨lo,hi',h1,h2,h3⟩:=EV.mc
  refine(here_eq EV.eo h1 fun V2 hb2=>(L1.out V2 (hb.trans (hb2.mono hb.size))).l1).mono fun r w' h=>⟨_,h.1,rfl,h.2⟩⟩
 obtain⟨p,pb,pN,x0,x1,x2,lL⟩:∃ p:World->Prop,(∀ V,p V↔Below W1.heap.size W1 V)/\Nonempty (CW p)/\(∀ θ:CW p,θ.w.cell? ⟨W.heap.size,0,none⟩=some (pV e))/\(∀ θ:CW p,θ.w.cell? ⟨W.heap.size+1,1,none⟩=some (.string c.nm))/\(∀ θ:CW p,θ.w.cell? ⟨gb,2,none⟩=some (.map (some m)))/\(∀ V,p V->(Instr.lookup 68 (.map (some m)) (.string c.nm) false).run Tryz.prog V = .ok (pV b) V) :=
  ⟨fun V=>Below W1.heap.size W1 V,fun _=>Iff.rfl,⟨⟨W1,Below.refl _ _⟩⟩,fun θ=>cell_at ((θ.h.block _ (by omega)).trans c0) 0,fun θ=>cell_at ((θ.h.block _ (by omega)).trans c1) 1,fun θ=>cell_at (L1.out _ θ.h).gb 2,fun V hV=>(L1.out V hV).l2⟩
 replace pb:=Hid.mk pb
 replace E1:=Hid.mk E1
 replace c0:=Hid.mk c0
 replace c1:=Hid.mk c1
 replace c2:=Hid.mk c2
 replace b1:=Hid.mk b1
 replace s1:=Hid.mk s1
 replace hS:=Hid.mk hS
 replace hE:=Hid.mk hE
 replace hq:=Hid.mk hq
 replace hw:=Hid.mk hw
 replace hn:=Hid.mk hn
 replace hl:=Hid.mk hl
 clear L
 generalize hLs:ptL f.toks k u=ls at *
 have hd:Hid (Below W1.heap.size W1 W1.drew):=⟨(Below.refl _ _).drew⟩
 refine callsIn_of_wp_marks Tryz.func16 rfl trivial ?_ rfl
 simp only[Tryz.ntmps16,List.size_toArray,List.length_cons,List.length_nil,Nat.reduceAdd,Nat.reduceSub,Array.replicate_succ,Array.replicate_zero,List.push_toArray,List.append_toArray,List.nil_append,List.cons_append]
 refine wpIn_wide.2 ?_
 go_upto_region 1 with fail
 rw[<- hW1]
 clear hW1
 refine wp_region_lzN (fun V=>∃ θ:CW p,V=θ.w) [0,5,6,1,2,3,4,7,8] (by kernel_rfl) (by kernel_rfl) ⟨⟨_,(pb.out _).2 hd.out⟩,rfl⟩ ?_
 simp only[List.filterMap_cons,List.filterMap_nil,List.getElem?_cons_zero,List.getElem?_cons_succ]
 generalize W1.drew=V at hd ⊢
 repeat (first|(guard_target =~ Ly _ _ _ _ (Oper.mk _ (Op.call _) _ _ _ _::_) _ _;fail)|(guard_target =~ Ly _ _ _ _ (Oper.mk _ (Op.lookup _ _ _ _) _ _ _ _::_) _ _;fail)|(refine ly_one rfl ?_;(first|go_big_quiet_skip|(go_big_quiet_want;go_big_quiet_op;go_big_quiet_on));refine wpQuiet_nil ?_))
 refine ly_call1 ent_here (cH.out V hd.out) rfl (by rfl) ?_
 rintro _ V2 ⟨rfl,b2⟩
 have hd2:=hd.out.trans (b2.mono hd.out.size)
 refine⟨_,fun _ h=>h,⟨⟨_,(pb.out _).2 hd2⟩,rfl⟩,?_⟩
 simp only[pts]
 replace b2:=Hid.mk b2
 replace hd2:=Hid.mk hd2
 repeat (first|(guard_target =~ Ly _ _ _ _ (Oper.mk _ (Op.call _) _ _ _ _::_) _ _;fail)|(guard_target =~ Ly _ _ _ _ (Oper.mk _ (Op.lookup _ _ _ _) _ _ _ _::_) _ _;fail)|(refine ly_one rfl ?_;(first|go_big_quiet_skip|(go_big_quiet_want;go_big_quiet_op;go_big_quiet_on));refine wpQuiet_nil ?_))
 refine ly_lk (lL _ ((pb.out _).2 hd2.out)) ⟨⟨_,(pb.out _).2 hd2.out⟩,rfl⟩ rfl rfl (by rfl) ?_
 simp only[pts]
 repeat (first|(guard_target =~ Ly _ _ _ _ (Oper.mk _ (Op.call _) _ _ _ _::_) _ _;fail)|(refine ly_one rfl ?_;(first|go_big_quiet_skip|(go_big_quiet_want;go_big_quiet_op;go_big_quiet_on));refine wpQuiet_nil ?_))
 refine ly_done ⟨rfl,?_⟩
 clear b2 hd cH pb x0 x1 x2 lL pN
 go_upto_region 2 with fail
 have r0:V2.ownsRow S0 144 3 v ls.length (lfCs ls):=by rw[<- hLs];exact(L1.out V2 hd2.out).rw'
 obtain⟨pa',cpa,hv0,hlf⟩:=lf_read r0
 have c1':=(hd2.out.block _ (by have:=s1.out;omega)).trans c1.out
 have cpb:V2.heap[b]?=some (.cells (ptCs (ptT u) v ls).toArray 89):=by rw[<- hLs];exact(L1.out V2 hd2.out).pb
 have lb:=(L1.out V2 hd2.out).lt
 have lvb:=(L1.out V2 hd2.out).vb
 obtain⟨p,pb,pN,x1,x2⟩:∃ p:World->Prop,(∀ V,p V↔Below V2.heap.size V2 V)/\Nonempty (CW p)/\(∀ θ:CW p,θ.w.cell? ⟨W.heap.size+1,2,none⟩=some (.slice q ws.length cp))/\(∀ θ:CW p,θ.w.cell? ⟨b,22,none⟩=some (.int .i64 (wdsL ls))) :=
  ⟨fun V=>Below V2.heap.size V2 V,fun _=>Iff.rfl,⟨⟨V2,Below.refl _ _⟩⟩,fun θ=>by rw[<- hq.out];exact cell_at ((θ.h.block _ (Array.getElem?_eq_some_iff.1 c1').1).trans c1') 2,fun θ=>cell_at ((θ.h.block _ (Array.getElem?_eq_some_iff.1 cpb).1).trans cpb) 22⟩
 have hd:Below V2.heap.size V2 V2.drew:=(Below.refl _ _).drew
 refine wp_region_lyN (fun V=>∃ θ:CW p,V=θ.w) (by kernel_rfl) (by kernel_rfl) ⟨⟨_,(pb _).2 hd⟩,rfl⟩ ?_
 generalize V2.drew=V3 at hd ⊢
 replace hd2:Hid (Below W1.heap.size W1 V3):=⟨hd2.out.trans (hd.mono hd2.out.size)⟩
 have cpb3:Hid _:=⟨(hd.block _ (Array.getElem?_eq_some_iff.1 cpb).1).trans cpb⟩
 clear pb c1' cpb
 by_cases hne:(ws.length:Int)=wdsL ls
 ·have hb:((ws.length:Int) != wdsL ls)=false:=by simp[hne]
  replace hne:=Hid.mk hne
  repeat (first|(guard_target =~ Ly _ _ _ _ (Oper.mk _ (Op.call { callee:=.value _,args:=_,argTypes:=_ }) _ _ _ _::_) _ _;fail)|(refine ly_one rfl ?_;(first|go_big_quiet_skip|(go_big_quiet_want;go_big_quiet_op;go_big_quiet_on));refine wpQuiet_nil ?_))
  refine ly_done ⟨rfl,?_⟩
  clear x1 x2 pN
  have c1':=(hd2.out.block _ (by have:=s1.out;omega)).trans c1.out
  have k1:V3.cell? ⟨W.heap.size+1,2,none⟩=some (.slice q ws.length cp):=by rw[<- hq.out];exact cell_at c1' 2
  have cE:=each_any V3 b q ws.length cp
  go_upto_block 0 with (go_at_call 34;refine cE.mono ?_;clear cE;rintro _ w4 ⟨rfl,rfl⟩)
  clear k1 c1'
  have b4:Below V3.heap.size V3 ((V3.alloc (.cells #[pV b] 85)).alloc (.cells #[.slice q ws.length cp] 42)):=((Below.refl _ _).alloc (Nat.le_refl _) _).alloc (by simp) _
  have s4:((V3.alloc (.cells #[pV b] 85)).alloc (.cells #[.slice q ws.length cp] 42)).heap.size=V3.heap.size+2:=by simp
  have h40:((V3.alloc (.cells #[pV b] 85)).alloc (.cells #[.slice q ws.length cp] 42)).heap[V3.heap.size]?=some (.cells #[pV b] 85):=two_1 _ _ _
  have h41:((V3.alloc (.cells #[pV b] 85)).alloc (.cells #[.slice q ws.length cp] 42)).heap[V3.heap.size+1]?=some (.cells #[.slice q ws.length cp] 42):=two_2 _ _ _
  generalize ((V3.alloc (.cells #[pV b] 85)).alloc (.cells #[.slice q ws.length cp] 42))=w4 at *
  have B4:Hid (Below W.heap.size W w4):=⟨b1.out.trans ((hd2.out.trans (b4.mono hd2.out.size)).mono b1.out.size)⟩
  have gl:=hE.out.cs.row.lt
  have sg:=hE.out.ne.2.2.1
  have R4:Hid (Rds (fun k=>k=g) b (V3.heap.size+1) V3.heap.size pa' cpa ls q cp ws w4):=⟨by
   have hz3:W.heap.size<=V3.heap.size:=by have:=s1.out;have:=hd2.out.size;omega
   have ww:=hw.out.below B4.out
   have l21:w4.cell? ⟨b,21,none⟩=some v:=cell_at ((b4.block _ (Array.getElem?_eq_some_iff.1 cpb3.out).1).trans cpb3.out) 21
   have kp:=hE.out.kp
   refine⟨⟨by omega,by omega,by omega,by omega⟩,by rw[l21,hv0],fun i x hx=>?_,cell_at h41 0,cell_at h40 0,ww.at',(hE.out.below B4.out).kt⟩
   obtain⟨gl',e1,e2,f1,f2,f3⟩:=hlf i x hx
   have:=lvb gl' e2
   have hv2:gl'<V2.heap.size:=by omega
   have T:∀ j,w4.cell? ⟨gl',j,none⟩=V2.cell? ⟨gl',j,none⟩:=fun j=>(b4.cell (p:=⟨gl',j,none⟩) (Nat.lt_of_lt_of_le hv2 hd.size)).trans (hd.cell (p:=⟨gl',j,none⟩) hv2)
   exact⟨gl',e1,by omega,(T _).trans f1,(T _).trans f2,(T _).trans f3⟩⟩
  have hz3:W.heap.size+3<=V3.heap.size:=by have:=s1.out;have:=hd2.out.size;omega
  have h42:w4.heap[W.heap.size+1+1]?=some (.cells #[.int .i64 0] 35):=(b4.block _ (by omega)).trans ((hd2.out.block _ (by have:=s1.out;omega)).trans c2.out)
  have hwn:ws.length=wnL ls:=by have:=wnL_eq ls hn.out;have:=hne.out;omega
  have hc11:w4.heap[W.heap.size+1]?=some (caO c):=(b4.block _ (by omega)).trans ((hd2.out.block _ (by have:=s1.out;omega)).trans c1.out)
  have hc00:w4.heap[W.heap.size]?=some (.cells #[pV e] 34):=(b4.block _ (by omega)).trans ((hd2.out.block _ (by have:=s1.out;omega)).trans c0.out)
  replace hc11:=Hid.mk hc11
  replace hc00:=Hid.mk hc00
  replace hwn:=Hid.mk hwn
  have s4w:Hid (W.heap.size+3<=w4.heap.size):=⟨by omega⟩
  clear s4
  clear hd hd2 b4 h40 h41 hlf lvb cpb3 r0 lb L1 c0 c1 c2
  generalize V3.heap.size=Bp at *
  refine(wpIn_wide (n:=9)).1 ?_
  gi_wp2_with fail
  refine rangeW (V:=fun k=>k=g) rfl (enters_of Tryz.func58 (by kernel_rfl) rfl) (encs:=spwE) (xs:=spwA ls ws) (fun _=>rfl) (fun fn tm=>?seq) (fun pre Wx=>fitA pre=true/\Below w4.heap.size w4 Wx) (fun c pre Wx=>c = .ret/\fitA pre=false/\Below W.heap.size W Wx/\Wx.heap[W.heap.size+1+1]?=some (.cells #[.int .i64 162] 35))
   (fun pre A B h hb=>⟨h.1,h.2.trans hb⟩) (fun c pre A B h hb=>⟨h.1,h.2.1,h.2.2.1.trans (hb.mono B4.out.size),(hb.block _ (by have:=s4w.out;omega)).trans h.2.2.2⟩) ⟨rfl,Below.refl _ _⟩
   (fun x a' Wx=>∃ B u,w4.heap.size<=B/\Wx.heap[B]?=some (spO x)/\a'={ tmps:=KF1 W.heap.size B x.x u,defers:=[] })
   (fun x a' A B h hk=>by
    obtain⟨C,u,h1,h2,h3⟩:=h
    exact⟨C,u,h1,hk.same _ _ h2 rfl (by have:=s4w.out;omega),h3⟩)
   ?assign ?body ?done ?stop
  case seq=>exact each_in _ (R4.out.kps (Kps.of (((Below.refl _ _).alloc (Nat.le_refl _) _).alloc (by simp) _))) (fun k hk=>by subst hk;simp;have:=B4.out.size;omega) hw.out.len hw.out.cap hn.out hwn.out hl.out
  case assign =>
   intro mm l pre x Wx K hi hlt hK
   obtain⟨xp,xo,xx⟩:=x
   unfold spwE
   gi_wp2
   generalize ha1:(Act.mk _ _)=a1
   refine hK a1 (Wx.alloc (spO ⟨xp,xo,xx⟩)) (Kfr.below (nbel _ _)) (Kps.of (nbel _ _)) ⟨hi.1,hi.2.trans ((nbel _ _).mono hi.2.size)⟩ ⟨Wx.heap.size,fun k=>a1.tmps.getD k undef,by omega,thnK _ _,?_⟩
   rw[<- ha1];rfl
  case body =>
   rintro mm l pre x a' Wx hwl hlt ⟨rl,hrl⟩ ⟨tl,hpx⟩ ⟨hfit,hBx⟩ ⟨B6,uu,hB6,hb6,rfl⟩
   obtain⟨xp,xo,xx⟩:=x
   have hxw:=hw.out.bd _ (spwA_mem ls ws ⟨xp,xo,xx⟩ (by rw[<- hpx];simp))
   have ktx:=((hE.out.below B4.out).below hBx).kt
   have F:=fun V (hb:Below Wx.heap.size Wx V)=>Fits_any xp xx V (ktx.below ktx.pos hb) hxw.1 hxw.2
   have c60:=cell_at hb6 0
   simp only[KF1]
   have hfe:fitA (pre++[⟨xp,xo,xx⟩])=fitsF (sz xp) (rd xp) xx:=by
    unfold fitA at hfit ⊢
    rw[List.all_append,hfit]
    simp
   by_cases hff:fitsF (sz xp) (rd xp) xx=true
   ·rw[hff] at hfe F
    replace hfe:=Hid.mk hfe
    replace F:=Hid.mk F
    replace hpx:=Hid.mk hpx
    clear hff hfit
    gi_wp2_with (refine⟨trivial,fun h=>absurd h (by decide),?_⟩;refine((callsIn_wide.2 (F.out Wx (Below.refl _ _))).inRound l).mono ?_;rintro _ w9 ⟨rfl,hb9⟩)
    exact⟨Kfr.below hb9,Kps.of hb9,hfe.out,hBx.trans (hb9.mono hBx.size)⟩
   ·have hff':fitsF (sz xp) (rd xp) xx=false:=by simpa using hff
    rw[hff'] at hfe F
    have hx42:=(hBx.block _ (Array.getElem?_eq_some_iff.1 h42).1).trans h42
    replace hfe:=Hid.mk hfe
    replace F:=Hid.mk F
    replace hpx:=Hid.mk hpx
    clear hff hff' hfit
    gi_wp2_with (refine⟨trivial,fun h=>absurd h (by decide),?_⟩;refine((callsIn_wide.2 (F.out Wx (Below.refl _ _))).inRound l).mono ?_;rintro _ w9 ⟨rfl,hb9⟩;have h92:=(hb9.block _ (Array.getElem?_eq_some_iff.1 hx42).1).trans hx42;have k92:w9.cell? ⟨W.heap.size+1+1,0,none⟩=some (.int .i64 0):=cell_at h92 0;have f92:w9.frozen? ⟨W.heap.size+1+1,0,none⟩=false:=efrz h92)
    exact⟨(Kfr.below hb9).trans ((KeepsOthers.setCell _ _ _).from _),rfl,hfe.out,((B4.out.trans ((hBx.trans (hb9.mono hBx.size)).mono B4.out.size))).setCell (p:=⟨W.heap.size+1+1,0,none⟩) (by show W.heap.size<=W.heap.size+1+1;omega) _,(eset_at h92 _).trans rfl⟩
  case done =>
   rintro D Wd hD ⟨hfx,hBd⟩ hDm
   have hz:Hid (efdZ hi st en bl fb ls ws=(0,putA hi st en bl fb (spwA ls ws))):=⟨by unfold efdZ;rw[if_pos hne.out,if_pos hfx]⟩
   replace hDm:=Hid.mk hDm
   replace hfx:=Hid.mk hfx
   have c1':=(hBd.block _ (by have:=s4w.out;omega)).trans hc11.out
   have k1:Wd.cell? ⟨W.heap.size+1,2,none⟩=some (.slice q ws.length cp):=by rw[<- hq.out];exact cell_at c1' 2
   gi_wp2_with fail
   have cE:=each_any Wd b q ws.length cp
   go_upto_block 2 with (go_at_call 34;refine cE.mono ?_;clear cE;rintro _ w6 ⟨rfl,rfl⟩)
   clear k1 c1'
   have b6:Below Wd.heap.size Wd ((Wd.alloc (.cells #[pV b] 85)).alloc (.cells #[.slice q ws.length cp] 42)):=((Below.refl _ _).alloc (Nat.le_refl _) _).alloc (by simp) _
   have h60:((Wd.alloc (.cells #[pV b] 85)).alloc (.cells #[.slice q ws.length cp] 42)).heap[Wd.heap.size]?=some (.cells #[pV b] 85):=two_1 _ _ _
   have h61:((Wd.alloc (.cells #[pV b] 85)).alloc (.cells #[.slice q ws.length cp] 42)).heap[Wd.heap.size+1]?=some (.cells #[.slice q ws.length cp] 42):=two_2 _ _ _
   generalize ((Wd.alloc (.cells #[pV b] 85)).alloc (.cells #[.slice q ws.length cp] 42))=w6 at *
   have b46:=hBd.trans (b6.mono hBd.size)
   have B6:Hid (Below W.heap.size W w6):=⟨B4.out.trans (b46.mono B4.out.size)⟩
   have s6w:Hid (W.heap.size+3<=w6.heap.size/\w4.heap.size<=w6.heap.size/\D<w6.heap.size):=⟨by have:=s4w.out;have:=b46.size;have:=b6.size;have:=(Array.getElem?_eq_some_iff.1 hDm.out).1;omega⟩
   have R6:Hid (Rds (fun k=>k=g) b (Wd.heap.size+1) Wd.heap.size pa' cpa ls q cp ws w6):=⟨by
    have r:=R4.out.kps (Kps.of b46)
    have:=s4w.out
    have:=hBd.size
    exact⟨⟨r.nv.1,by omega,by omega,r.nv.2.2.2⟩,r.lv,r.lf,cell_at h61 0,cell_at h60 0,r.wr,r.kt⟩⟩
   have hD6:=(b6.block _ (Array.getElem?_eq_some_iff.1 hDm.out).1).trans hDm.out
   have h62:=(b46.block _ (by have:=s4w.out;omega)).trans h42
   have h63:=(b46.block _ (by have:=s4w.out;omega)).trans hc00.out
   have hEB:EnB e cu g U S1 w6.heap.size:=by
    have h:=hE.out.blt
    have hz:=B6.out.size
    exact⟨by have:=h.e;omega,by have:=h.c;omega,by have:=h.g;omega,fun k hk=>by have:=h.u k hk;omega,by have:=h.s;omega⟩
   replace hEB:=Hid.mk hEB
   clear b6 h60 h61 hBd b46 R4
   generalize Wd.heap.size=Bq at *
   refine(wpIn_wide (n:=9)).1 ?_
   gi_wp2_with fail
   refine rangeW (V:=fun k=>k=g) rfl (enters_of Tryz.func58 (by kernel_rfl) rfl) (encs:=spwE) (xs:=spwA ls ws) (fun _=>rfl) (fun fn tm=>?seq2)
    (fun pre Wx=>En f n S0 S1 pa pm e ma cu s U g len cap st en hi (putA hi st en bl fb pre) wt bl Wx/\Frm (Wr e cu g U) W Wx/\Wx.heap[W.heap.size]?=some (.cells #[pV e] 34)/\Wx.heap[W.heap.size+1+1]?=some (.cells #[.int .i64 0] 35)/\Wx.heap[D]?=some (.deferred (some [])))
    (fun _ _ _=>False)
    (fun pre A B h hb=>⟨h.1.blw hEB.out hb,h.2.1.blw B6.out.size hb,(hb.block _ (by have:=s6w.out;omega)).trans h.2.2.1,(hb.block _ (by have:=s6w.out;omega)).trans h.2.2.2.1,(hb.block _ s6w.out.2.2).trans h.2.2.2.2⟩) (fun c pre A B h hb=>h) ⟨hE.out.below B6.out,Frm.of_below B6.out,h63,h62,hD6⟩
    (fun x a' Wx=>∃ B u,w6.heap.size<=B/\Wx.heap[B]?=some (spO x)/\a'={ tmps:=KF2 W.heap.size B x.x u,defers:=[] })
    (fun x a' A B h hk=>by
     obtain⟨C,u,h1,h2,h3⟩:=h
     exact⟨C,u,h1,hk.same _ _ h2 rfl (by have:=s6w.out;omega),h3⟩)
    ?assign2 ?body2 ?done2 ?stop2
   case seq2=>exact each_in _ (R6.out.kps (Kps.of (((Below.refl _ _).alloc (Nat.le_refl _) _).alloc (by simp) _))) (fun k hk=>by subst hk;simp;have:=B6.out.size;omega) hw.out.len hw.out.cap hn.out hwn.out hl.out
   case assign2 =>
    intro mm l pre x Wx K hi hlt hK
    obtain⟨xp,xo,xx⟩:=x
    unfold spwE
    gi_wp2
    generalize ha1:(Act.mk _ _)=a1
    refine hK a1 (Wx.alloc (spO ⟨xp,xo,xx⟩)) (Kfr.below (nbel _ _)) (Kps.of (nbel _ _)) ⟨hi.1.below (nbel _ _),hi.2.1.blw hi.2.1.size (nbel _ _),(heap_alloc_old _ _ (Array.getElem?_eq_some_iff.1 hi.2.2.1).1).trans hi.2.2.1,(heap_alloc_old _ _ (Array.getElem?_eq_some_iff.1 hi.2.2.2.1).1).trans hi.2.2.2.1,(heap_alloc_old _ _ (Array.getElem?_eq_some_iff.1 hi.2.2.2.2).1).trans hi.2.2.2.2⟩ ⟨Wx.heap.size,fun k=>a1.tmps.getD k undef,by omega,thnK _ _,?_⟩
    rw[<- ha1];rfl
   case body2 =>
    rintro mm l pre x a' Wx hwl hlt ⟨rl,hrl⟩ ⟨tl,hpx⟩ ⟨hEx,hFx,hx0,hx2,hxD⟩ ⟨B8,uu,hB8,hb8,rfl⟩
    obtain⟨xp,xo,xx⟩:=x
    have hxw:=hw.out.bd _ (spwA_mem ls ws ⟨xp,xo,xx⟩ (by rw[<- hpx];simp))
    obtain⟨p2,q2,pN,y0,y1,y24,z0,z1⟩:∃ p2:World->Prop,(∀ V,p2 V↔(V.heap[W.heap.size]?=Wx.heap[W.heap.size]?/\V.heap[e]?=Wx.heap[e]?/\V.heap[B8]?=Wx.heap[B8]?))/\Nonempty (CW p2)/\(∀ θ:CW p2,θ.w.cell? ⟨W.heap.size,0,none⟩=some (pV e))/\(∀ θ:CW p2,θ.w.cell? ⟨e,1,none⟩=some (pV cu))/\(∀ θ:CW p2,θ.w.cell? ⟨e,24,none⟩=some (.int .i64 bl))/\(∀ θ:CW p2,θ.w.cell? ⟨B8,0,none⟩=some (.int .i64 xp))/\(∀ θ:CW p2,θ.w.cell? ⟨B8,1,none⟩=some (.int .i64 xo)) :=
     ⟨_,fun _=>Iff.rfl,⟨⟨Wx,rfl,rfl,rfl⟩⟩,fun θ=>cell_at (θ.h.1.trans hx0) 0,fun θ=>cell_at (θ.h.2.1.trans hEx.eo) 1,fun θ=>cell_at (θ.h.2.1.trans hEx.eo) 24,fun θ=>cell_at (θ.h.2.2.trans hb8) 0,fun θ=>cell_at (θ.h.2.2.trans hb8) 1⟩
    have hd:Below Wx.heap.size Wx Wx.drew:=(Below.refl _ _).drew
    have hp2:p2 Wx.drew:=(q2 _).2 ⟨rfl,rfl,rfl⟩
    have hsz:w6.heap.size+0<=Wx.heap.size:=by omega
    replace q2:=Hid.mk q2
    replace hEx:=Hid.mk hEx
    replace hFx:=Hid.mk hFx
    replace hpx:=Hid.mk hpx
    simp only[KF2]
    gi_wp2_with fail
    refine wpIn_region_lyR (by rfl) (fun V=>∃ θ:CW p2,V=θ.w) (by kernel_rfl) (by kernel_rfl) (fun _ _ _ _ _ h=>h) ⟨⟨_,hp2⟩,rfl⟩ ?_
    have eV:=hEx.out.below hd
    generalize Wx.drew=V at hd hp2 eV ⊢
    have P:=C.PutCu_any eV.cs eV.kt (wrap64 (bl+xo)) xp xx hxw.1 hxw.2
    replace eV:=Hid.mk eV
    repeat (first|(guard_target =~ Ly _ _ _ _ (Oper.mk _ (Op.call { callee:=.value _,args:=_,argTypes:=_ }) _ _ _ _::_) _ _;fail)|(refine ly_one rfl ?_;(first|go_big_quiet_skip|(go_big_quiet_want;go_big_quiet_op;go_big_quiet_on));refine wpQuiet_nil ?_))
    refine ly_call4 (R:=fun r w9=>r = .int .i64 (C.putE st en (wrap64 (bl+xo)) xp xx)/\C.Cs w9 cu 0 g len cap st en hi (C.putF hi st en (putA hi st en bl fb pre) (wrap64 (bl+xo)) xp xx)/\C.Only g V w9) ent_put (P.mono fun r w9 h=>⟨_,h.1,rfl,h.2⟩) rfl rfl rfl rfl (by rfl) ?_
    rintro _ w9 ⟨rfl,g1,g2⟩
    have sV:=hd.size
    have gW:=hE.out.blt
    have hne9:=hE.out.ne
    have o9:∀ k,k<Wx.heap.size->k≠g->w9.heap[k]?=Wx.heap[k]?:=fun k hk hn=>(g2.block k (by omega) hn).trans (hd.block k hk)
    have lx:=(Array.getElem?_eq_some_iff.1 hb8).1
    have z6:=s6w.out
    have z4:=s4w.out
    have q9:p2 w9:=(q2.out _).2 ⟨o9 _ (by omega) (by have:=gW.g;omega),o9 _ (by have:=gW.e;omega) hne9.2.2.2.2,o9 _ lx (by have:=gW.g;omega)⟩
    refine⟨fun V=>∃ θ:CW p2,V=θ.w,fun _ h=>h,⟨⟨_,q9⟩,rfl⟩,?_⟩
    refine ly_done ⟨by simp,?_⟩
    have E9:=eV.out.cur (C.Cb.of_only g2 eV.out.cs.lt eV.out.cs.ne) g1
    refine⟨(Kfr.below hd).trans (Kfr.only g2 (by have:=gW.g;omega)),(Kps.of hd).trans (Kps.only g2 rfl),?_,(hFx.out.trans (Frm.of_below hd)).trans ⟨g2.os,g2.tape,g2.output,g2.size,fun k hk hn=>g2.block k hk fun e'=>hn (.inr (.inr (.inl e')))⟩,(o9 _ (by omega) (by have:=gW.g;omega)).trans hx0,(o9 _ (by omega) (by have:=gW.g;omega)).trans hx2,(o9 _ (by omega) (by have:=gW.g;omega)).trans hxD⟩
    rw[putA_app]
    exact E9
   case done2 =>
    rintro D2 Wx hD2 ⟨hEx,hFx,-,hx2,hxD⟩ hDm2
    have k2:Wx.cell? ⟨W.heap.size+1+1,0,none⟩=some (.int .i64 0):=cell_at hx2 0
    have f2:Wx.frozen? ⟨W.heap.size+1+1,0,none⟩=false:=efrz hx2
    replace hDm2:=Hid.mk hDm2
    replace hxD:=Hid.mk hxD
    replace hEx:=Hid.mk hEx
    replace hFx:=Hid.mk hFx
    gi_wp2_with fail
    go_wp2_with fail
    have b9:Below W.heap.size Wx (Wx.setCell ⟨W.heap.size+1+1,0,none⟩ (.int .i64 0)):=(Below.refl _ _).setCell (p:=⟨W.heap.size+1+1,0,none⟩) (by show W.heap.size<=W.heap.size+1+1;omega) _
    have x9:(Wx.setCell ⟨W.heap.size+1+1,0,none⟩ (.int .i64 0)).heap[W.heap.size+1+1]?=some (.cells #[.int .i64 0] 35):=(eset_at hx2 _).trans rfl
    have d9:(Wx.setCell ⟨W.heap.size+1+1,0,none⟩ (.int .i64 0)).heap[D]?=some (.deferred (some [])):=(eset_off (by have:=s4w.out;omega)).trans hxD.out
    have d8:(Wx.setCell ⟨W.heap.size+1+1,0,none⟩ (.int .i64 0)).heap[D2]?=some (.deferred (some [])):=(eset_off (by have:=s6w.out;omega)).trans hDm2.out
    generalize Wx.setCell ⟨W.heap.size+1+1,0,none⟩ (.int .i64 0)=W9 at *
    refine lv_mks (n₀:=w4.heap.size) _ W9 ⟨D2,rfl,by have:=s6w.out;omega,d8,fun d' hd'=>by rw[List.mem_singleton.1 hd'];intro e;injection e with e;have:=s6w.out;omega,⟨D,rfl,hD,d9,by simp,trivial⟩⟩ fun W' hb=>?_
    have hcr:W'.cell? ⟨W.heap.size+1+1,0,none⟩=some (.int .i64 0):=cell_at ((hb.block _ (by have:=s4w.out;omega)).trans x9) 0
    have hB':=b9.trans (hb.mono B4.out.size)
    rw[hz.out]
    refine⟨.int .i64 0,?_,rfl,hEx.out.blw hE.out.blt hB',hFx.out.blw (Nat.le_refl _) hB'⟩
    simp[results,Tryz.results16,go_sem,hcr]
   case stop2=>exact fun _ _ _ _ _ _ h=>h.elim
  case stop =>
   rintro D c pre Wd hD ⟨tl,hpx⟩ ⟨rfl,hfp,hBd,h162⟩ hDm
   have hz:Hid (efdZ hi st en bl fb ls ws=(162,fb)):=⟨by
    unfold efdZ
    rw[if_pos hne.out,if_neg]
    rw[<- hpx]
    unfold fitA at hfp ⊢
    rw[List.all_append,hfp]
    simp⟩
   replace hDm:=Hid.mk hDm
   gi_wp2_with fail
   refine lv_mks (n₀:=w4.heap.size) _ Wd ⟨D,rfl,hD,hDm.out,by simp,trivial⟩ fun W' hb=>?_
   have hcr:W'.cell? ⟨W.heap.size+1+1,0,none⟩=some (.int .i64 162):=cell_at ((hb.block _ (by have:=s4w.out;omega)).trans h162) 0
   have hB':=hBd.trans (hb.mono B4.out.size)
   rw[hz.out]
   refine⟨.int .i64 162,?_,rfl,hE.out.below hB',Frm.of_below hB'⟩
   simp[results,Tryz.results16,go_sem,hcr]
 ·have hb:((ws.length:Int) != wdsL ls)=true:=by simp[hne]
  have hz:Hid (efdZ hi st en bl fb ls ws=(161,fb)):=⟨by unfold efdZ;rw[if_neg hne]⟩
  clear hne
  repeat (first|(guard_target =~ Ly _ _ _ _ (Oper.mk _ (Op.call { callee:=.value _,args:=_,argTypes:=_ }) _ _ _ _::_) _ _;fail)|(refine ly_one rfl ?_;(first|go_big_quiet_skip|(go_big_quiet_want;go_big_quiet_op;go_big_quiet_on));refine wpQuiet_nil ?_))
  refine ly_done ⟨rfl,?_⟩
  clear x1 x2 pN
  have c2':=(hd2.out.block _ (by have:=s1.out;omega)).trans c2.out
  have k2:V3.cell? ⟨W.heap.size+1+1,0,none⟩=some (.int .i64 0):=cell_at c2' 0
  have f2:V3.frozen? ⟨W.heap.size+1+1,0,none⟩=false:=efrz c2'
  go_wp2_with fail
  have hB:Below W.heap.size W (V3.setCell ⟨W.heap.size+1+1,0,none⟩ (.int .i64 161)):=(b1.out.trans (hd2.out.mono b1.out.size)).setCell (p:=⟨W.heap.size+1+1,0,none⟩) (by show W.heap.size<=W.heap.size+1+1;omega) _
  have hc:(V3.setCell ⟨W.heap.size+1+1,0,none⟩ (.int .i64 161)).heap[W.heap.size+1+1]?=some (.cells #[.int .i64 161] 35):=(eset_at c2' _).trans rfl
  generalize V3.setCell ⟨W.heap.size+1+1,0,none⟩ (.int .i64 161)=V4 at *
  refine lv_mks (n₀:=V4.heap.size) [] V4 trivial fun W' hb=>?_
  have hcr:W'.cell? ⟨W.heap.size+1+1,0,none⟩=some (.int .i64 161):=cell_at ((hb.block _ (Array.getElem?_eq_some_iff.1 hc).1).trans hc) 0
  have hB':=hB.trans (hb.mono hB.size)
  rw[hz.out]
  refine⟨.int .i64 161,?_,rfl,hE.out.below hB',Frm.of_below hB'⟩
  simp[results,Tryz.results16,go_sem,hcr]
theorem efield_any {f:Fm} {n:Pn} {S0 S1 pa pm e ma cu:Nat} {s:Ms} {U:Nat->Prop} {g len cap st en:Nat} {hi:Bool} {fb:Nat->Int} {wt bl:Int} {W:World} {t:Tk} {gb m b k:Nat} {u:Tk} {v:Value} (hE:En f n S0 S1 pa pm e ma cu s U g len cap st en hi fb wt bl W) (c:Cl) (L:∀ V,W.heap.size<=V.heap.size->(∀ x,S0<=x->x<S1->V.heap[x]?=W.heap[x]?)->Lk f S0 S1 pm (insZ s) t c.nm gb m b k u v V)
  (q:Option Addr) (cp:Nat) (ws:List Int) (hq:c.ws = .slice q ws.length cp) (hw:WsC (fun k=>k=g) q cp ws W) (hn:∀ x∈ptL f.toks k u,1<=x.n/\x.n<=65535) (hl:(ptL f.toks k u).length<=1000000000000) :
  Calls Tryz.prog 16 #[pV e,caV c] W fun r w'=>r = .returned (.int .i64 (efdZ hi st en bl fb (ptL f.toks k u) ws).1)/\En f n S0 S1 pa pm e ma cu s U g len cap st en hi (efdZ hi st en bl fb (ptL f.toks k u) ws).2 wt bl w'/\Frm (Wr e cu g U) W w' :=
 (callsIn_wide (n:=9)).1 (field_in hE c L q cp ws hq hw hn hl)
end Go.Proofs.YtjlbcdnkglaheaaGreatDoor

import Derived.Test.YtbhmciieiilcfaaGreatDoorK34
namespace Go.Proofs.YtbhmciieiilcfaaGreatDoor
open Go.ChangeShapes Go.WideShapes Go.ChangeAt Go.RowKit Go.Shelf Go.Maps
variable {C:World->Prop} {D P:Prop} {L:List Od} {a:Act} {c:Df} {gd:Option (Nat×Bool)} {ids:List Int} {k:Nat} {p v:Value} {r:List Oper} {t u xt:Tk} {ty:TypeId} {w w':World} {x:Od}
theorem ld_new (w:World) (t:Tk) (pc:Option Addr) (cc:Nat):∃ W:World,(∀ z:Array Value,z.size=21->(Instr.storeAt 83 (.pointer (some ⟨w.heap.size,0,none⟩)) (tkV t pc cc)).run Tryz.prog (w.alloc (.cells z 83)) = .ok () W)/\TkC W w.heap.size 0 t pc cc/\Below w.heap.size w W/\W.heap.size=w.heap.size+1 :=
 ⟨w.alloc (tkO t pc cc),fun z hz=>st_new w z hz t pc cc,tk_of (heap_al _ _),bel1 _ _,World.size_alloc _ _⟩
theorem own_tk {W:World} {g:Nat} {pc:Option Addr} {cc:Nat} (h:TkC w g 0 t pc cc) (hg:g<w.heap.size) (hb:Below w.heap.size w W):TkC W g 0 t pc cc:=h.below hg hb
theorem Dt.at {f:Fm} {vi:Value} (h:Dt w c f L x xt t ids vi) (hu:f.toks[k]?=some u):∃ pc cc,TkC w c.g (c.o+k*21) u pc cc/\URow w pc c.H u.cst/\u.cst.length<=cc/\TkOk u:=by
 obtain⟨g,o,pc,cc,e,_,h1,h2,h3,h4⟩:=h.tl.at hu
 cases e
 exact⟨pc,cc,h1,h2,h3,h4⟩
structure D0 (w:World) (c:Df) (f:Fm) (t:Tk) (vo vi:Value):Prop where
 ds:DsH w c.B f (some ⟨c.g,c.o,none⟩) c.cp vo vi
 tl:TkL w (some ⟨c.g,c.o,none⟩) c.H f.toks
 ht:f.toks[c.i]?=some t
 lg:c.g<w.heap.size
 sz:c.H<=w.heap.size
section
variable {w w':World} {c:Df} {f:Fm} {t:Tk} {vo vi:Value}
theorem D0.ll (h:D0 w c f t vo vi):f.toks.length<=733007751850:=by have:=h.tl.len;omega
theorem D0.il (h:D0 w c f t vo vi):c.i<f.toks.length:=(List.getElem?_eq_some_iff.1 h.ht).1
theorem D0.below (h:D0 w c f t vo vi) (hb:Below w.heap.size w w'):D0 w' c f t vo vi :=
 ⟨h.ds.same (hb.block _ h.ds.lt),h.tl.below (hb.mono h.sz),h.ht,Nat.lt_of_lt_of_le h.lg hb.size,Nat.le_trans h.sz hb.size⟩
theorem D0.at (h:D0 w c f t vo vi) (hu:f.toks[k]?=some u):∃ pc cc,TkC w c.g (c.o+k*21) u pc cc/\URow w pc w.heap.size u.cst/\u.cst.length<=cc/\TkOk u:=by
 obtain⟨g,o,pc,cc,e,_,h1,h2,h3,h4⟩:=h.tl.at hu
 cases e
 exact⟨pc,cc,h1,h2.mono h.sz,h3,h4⟩
theorem D0.tk (h:D0 w c f t vo vi):∃ pc cc,TkC w c.g (c.o+c.i*21) t pc cc/\URow w pc w.heap.size t.cst/\t.cst.length<=cc/\TkOk t:=h.at h.ht
theorem Dt.d0 (h:Dt w c f L x xt t ids vi):D0 w c f t (.slice (some ⟨c.go,0,none⟩) (L.length+1) c.cap) vi:=⟨h.ds,h.tl,h.ht,h.lg,h.sz⟩
end
theorem bgO_i64 {op:Int} (h:bgO op=true):IntKind.i64.wrap (op+1)=op+1:=by
 unfold bgO at h
 have:=decT h
 rw[IntKind.wrap_i64]
 omega
theorem lx_ld {P:Program} {ops:Array Oper} {Q:Exit->Act->World->Prop} {d:Option Tmp} {t:TypeId} {x:Operand} {ps:String} {af:Array Edge}
  (hl:∀ W,C W->(Instr.loadAt t p).run P W = .ok v W) (hx:a.eval x=p) (hw:Region.wanted ⟨d,.load t x,ty,ps,af,gd⟩ (yielded ops a.tmps)=true) (h:Lx P ops C Q r (a.put d v) w):Lx P ops C Q (⟨d,.load t x,ty,ps,af,gd⟩::r) a w :=
 lx_read hw rfl fun K hK=>⟨v,fun W hW=>by
  unfold Oper.quietAt execOp
  simp only[hx,hl W hW,Sem.run_bind,Result.andThen_ok,Sem.run_pure]
  exact⟨rfl,rfl⟩,hK _ h⟩
theorem lx_st {P:Program} {ops:Array Oper} {Q:Exit->Act->World->Prop} {d:Option Tmp} {t:TypeId} {x y:Operand} {ps:String} {af:Array Edge}
  (hr:(Instr.storeAt t p v).run P w = .ok () w') (hC:C w') (hx:a.eval x=p) (hy:a.eval y=v) (hw:Region.wanted ⟨d,.store t x y,ty,ps,af,gd⟩ (yielded ops a.tmps)=true) (h:Lx P ops C Q r (a.put d undef) w'):Lx P ops C Q (⟨d,.store t x y,ty,ps,af,gd⟩::r) a w :=
 lx_act hw rfl fun K hK=>by
  unfold Oper.wp execOp
  simp only[hx,hy,hr,Sem.run_bind,Result.andThen_ok]
  exact hK _ _ hC h
theorem clsT (wr:World):∃ p:World->Prop,p wr.drew/\(∀ W,p W->Below wr.heap.size wr W)/\(∀ W,Below wr.heap.size wr W->p W)/\Nonempty (CW p)/\(∀ (g o:Nat),g<wr.heap.size->∀ θ:CW p,θ.w.cell? ⟨g,o,none⟩=wr.cell? ⟨g,o,none⟩) /\
  (∀ (g o:Nat) (t:Tk) (pc:Option Addr) (cc:Nat),g<wr.heap.size->TkC wr g o t pc cc->∀ W,(∃ θ:CW p,W=θ.w)->(Instr.loadAt 83 (.pointer (some ⟨g,o,none⟩))).run Tryz.prog W = .ok (tkV t pc cc) W) /\
  (∀ (f:FuncId) (ag:Array Value) (v:Value),(∀ W,Below wr.heap.size wr W->Calls Tryz.prog f ag W fun e w'=>e = .returned v/\Below W.heap.size W w')->∀ W,p W->Calls Tryz.prog f ag W fun e w'=>e = .returned v/\p w') :=
 ⟨Below wr.heap.size wr,drw (Below.refl _ _),fun _ h=>h,fun _ h=>h,⟨⟨_,Below.refl _ _⟩⟩,fun g o hg θ=>θ.h.cell (p:=⟨g,o,none⟩) hg,fun g o t pc cc hg h=>by rintro _ ⟨θ,rfl⟩;exact(h.below hg θ.h).load,fun _ _ _ h=>callB (Nat.le_refl _) h⟩
abbrev odV (x:Od):Value:=.agg #[.int .i64 (x.at_:Int),.int .i64 x.stg,.int .i64 x.en,.int .i64 x.snc,.int .i64 x.row]
theorem infoOd:(Tryz.prog.info? 94).map (·.size)=some 5:=by kernel_rfl
theorem odC_one (x:Od):∀ u∈odC x,u.oneCell'=true:=by
 intro u hu
 simp only[odC,List.mem_cons,List.not_mem_nil,or_false] at hu
 rcases hu with rfl|rfl|rfl|rfl|rfl<;>rfl
theorem od_new (w:World) (x:Od):∃ W:World,(∀ z:Array Value,z.size=5->(Instr.storeAt 94 (.pointer (some ⟨w.heap.size,0,none⟩)) (odV x)).run Tryz.prog (w.alloc (.cells z 94)) = .ok () W)/\OdC W w.heap.size 0 x/\Below w.heap.size w W/\W.heap.size=w.heap.size+1 :=
 ⟨w.alloc (.cells (odC x).toArray 94),fun z hz=>run_storeAt_new w 94 z (odC x).toArray infoOd hz (all_oneCell_toArray (odC_one x)),
  have hh:=fun k=>cell_at (heap_al w (.cells (odC x).toArray 94)) k
  ⟨hh 0,hh 1,hh 2,hh 3,hh 4⟩,bel1 _ _,World.size_alloc _ _⟩
def Lfd (r:Ending) (P:Prop) (c:Df) (w w':World) (D:Prop):Prop:=∃ b,r = .returned (.bool b)/\(b=true↔P)/\Kb [c.go] w w'/\(b=true->D)
theorem Lfd.no (h:¬ P) (hk:Kb [c.go] w w'):Lfd (.returned (.bool false)) P c w w' D:=⟨false,rfl,by simp[h],hk,fun e=>by cases e⟩
theorem Lfd.yes (h:P) (hk:Kb [c.go] w w') (hd:D):Lfd (.returned (.bool true)) P c w w' D:=⟨true,rfl,by simp[h],hk,fun _=>hd⟩
theorem Kb.drewM {E:List Nat} {a b:World} (h:Kb E a b) (n:Nat):Kb E a (b.drewN n):=⟨h.os,h.tape,h.output,h.size,h.block⟩
def Lfg (r:Ending) (P:Prop) (c:Df) (w w':World) (D:Prop):Prop:=∃ b,r = .returned (.bool b)/\(b=true↔P)/\(b=false->Below w.heap.size w w')/\Kb [c.go] w w'/\(b=true->D)
theorem Lfg.no (h:¬ P) (hb:Below w.heap.size w w'):Lfg (.returned (.bool false)) P c w w' D:=⟨false,rfl,by simp[h],fun _=>hb,Kb.of_below hb,fun e=>by cases e⟩
theorem Lfg.yes (h:P) (hk:Kb [c.go] w w') (hd:D):Lfg (.returned (.bool true)) P c w w' D:=⟨true,rfl,by simp[h],(fun e=>by cases e),hk,fun _=>hd⟩
end Go.Proofs.YtbhmciieiilcfaaGreatDoor

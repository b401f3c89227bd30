import Derived.Test.YtjlbcdnkglaheaaGreatDoorK37
namespace Go.Proofs.YtjlbcdnkglaheaaGreatDoor
set_option maxRecDepth 1000000
set_option maxHeartbeats 16000000
open Go.ChangeShapes Go.WideShapes Go.ChangeAt Go.RowKit Go.Shelf Go.Maps
theorem putF_out {hi:Bool} {st en:Nat} {f:Nat->Int} {a p x:Int} {j:Nat} (hj:j<st\/en<=j):C.putF hi st en f a p x j=f j:=by
 unfold C.putF
 split
 ·rename_i h
  unfold C.putE at h
  split at h
  ·cases h
  ·split at h
   ·split at h
    ·rename_i hs hf hin
     have hi':=C.inC_of hin
     have hz:=sz_b p
     unfold C.pb
     rw[if_neg]
     omega
    ·cases h
   ·cases h
 ·rfl
theorem putA_out {hi:Bool} {st en:Nat} {bl:Int} {j:Nat} (hj:j<st\/en<=j):∀ (l:List SpW) (f:Nat->Int),putA hi st en bl f l j=f j
 | [],_=>rfl
 | _::r,_=>(putA_out hj r _).trans (putF_out hj)
theorem lay_out {f:Nat->Int} {a n:Nat} {t:ByteArray} {j:Nat} (hj:j<a\/a+n<=j):C.lay f a n t j=f j:=by
 unfold C.lay
 rw[if_neg (by omega)]
theorem clE_ok {len en:Nat} {n:Int} (h:C.clE len en n=0):0<=n/\n<=(len:Int)-en:=by
 unfold C.clE at h
 by_cases h1:n<0
 ·rw[if_pos h1] at h;cases h
 ·rw[if_neg h1] at h
  by_cases h2:(len:Int)-en<n
  ·rw[if_pos h2] at h;cases h
  ·omega
theorem clN_le {len en:Nat} {n:Int} (h:en<=len):en<=C.clN len en n/\C.clN len en n<=len:=by
 unfold C.clN
 by_cases h0:C.clE len en n=0
 ·rw[if_pos h0]
  have:=clE_ok h0
  omega
 ·rw[if_neg h0]
  exact⟨Nat.le_refl _,h⟩
theorem wrE_ok {len en:Nat} {n:Int} {ns:List C.Nb} (h:C.wrE len en n ns=0):0<=n/\n<=(len:Int)-en:=by
 unfold C.wrE at h
 by_cases h1:C.over ns=true
 ·rw[if_pos h1] at h;cases h
 ·rw[if_neg h1] at h
  exact clE_ok h
theorem puts_out {hi:Bool} {st en b:Nat} {j:Nat} (hj:j<st\/en<=j):∀ (ns:List C.Nb) (f:Nat->Int),C.puts hi st en b f ns j=f j
 | [],_=>rfl
 | _::r,_=>(puts_out hj r _).trans (putF_out hj)
theorem wrN_le {len en:Nat} {n:Int} {ns:List C.Nb} (h:en<=len):en<=C.wrN len en n ns/\C.wrN len en n ns<=len:=by
 unfold C.wrN
 by_cases h0:C.wrE len en n ns=0
 ·rw[if_pos h0]
  have:=wrE_ok h0
  omega
 ·rw[if_neg h0]
  exact⟨Nat.le_refl _,h⟩
theorem wrF_out {hi:Bool} {len st en:Nat} {f:Nat->Int} {n:Int} {ns:List C.Nb} {j:Nat} (hs:st<=en) (hj:j<st\/C.wrN len en n ns<=j):C.wrF hi len st en f n ns j=f j:=by
 unfold C.wrF
 unfold C.wrN at hj
 by_cases h0:C.wrE len en n ns=0
 ·rw[if_pos h0] at hj ⊢
  rw[puts_out hj]
  exact lay_out (by omega)
 ·rw[if_neg h0]
theorem pwN_le {g:Bool} {len en:Nat} {n:Int} {ns:List C.Nb} (h:en<=len):en<=C.pwN g len en n ns/\C.pwN g len en n ns<=len:=by
 unfold C.pwN
 cases g
 ·exact⟨Nat.le_refl _,h⟩
 ·exact wrN_le h
theorem pwF_out {g hi:Bool} {len st en:Nat} {f:Nat->Int} {n:Int} {ns:List C.Nb} {j:Nat} (hs:st<=en) (hj:j<st\/C.pwN g len en n ns<=j):C.pwF g hi len st en f n ns j=f j:=by
 unfold C.pwF
 unfold C.pwN at hj
 cases g
 ·rfl
 ·exact wrF_out hs hj
theorem pdE_ok {len en:Nat} {t:Tk} {n:Nat} (h:C.pdE len en t n=0):(n:Int)<=(len:Int)-en-t.siz:=by
 unfold C.pdE at h
 by_cases h1:C.lenG t=true
 ·rw[if_pos h1] at h
  by_cases h2:mx t.a.p<(n:Int)
  ·rw[if_pos h2] at h;cases h
  ·rw[if_neg h2] at h
   by_cases h3:(len:Int)-en-t.siz<n
   ·rw[if_pos h3] at h;cases h
   ·omega
 ·rw[if_neg h1] at h;cases h
theorem pd_siz {len en:Nat} {t:Tk} {n:Nat} (h:C.pdE len en t n=0):1<=t.siz:=by
 unfold C.pdE at h
 by_cases h1:C.lenG t=true
 ·exact(C.goods_ok (C.len_ok h1)).1.1
 ·rw[if_neg h1] at h;cases h
theorem pdN_le {len en:Nat} {t:Tk} {n:Nat} (h:en<=len):en<=C.pdN len en t n/\C.pdN len en t n<=len:=by
 unfold C.pdN
 by_cases h0:C.pdE len en t n=0
 ·rw[if_pos h0]
  have:=pdE_ok h0
  have:=pd_siz h0
  omega
 ·rw[if_neg h0]
  exact⟨Nat.le_refl _,h⟩
theorem pdF_out {hi:Bool} {len st en:Nat} {f:Nat->Int} {t:Tk} {s:ByteArray} {j:Nat} (hs:st<=en) (hj:j<st\/C.pdN len en t s.size<=j):C.pdF hi len st en f t s j=f j:=by
 unfold C.pdF
 unfold C.pdN at hj
 by_cases h0:C.pdE len en t s.size=0
 ·rw[if_pos h0] at hj ⊢
  rw[lay_out (by omega)]
  refine wrF_out hs ?_
  unfold C.wrN
  split<;>omega
 ·rw[if_neg h0]
theorem kndZ_ok {hi:Bool} {len st:Nat} {x:Es} (h1:st<=x.en) (h2:x.en<=len) (k cnt:Int) (tx:ByteArray) (ws:List Int) (t u:Tk) (ls:List Lf) :
  (x.en<=(kndZ hi len st x k cnt tx ws t u ls).2.en/\(kndZ hi len st x k cnt tx ws t u ls).2.en<=len)/\(∀ j,j<st\/(kndZ hi len st x k cnt tx ws t u ls).2.en<=j->(kndZ hi len st x k cnt tx ws t u ls).2.fb j=x.fb j) /\
   ((kndZ hi len st x k cnt tx ws t u ls).1≠0->(kndZ hi len st x k cnt tx ws t u ls).2.en=x.en/\(kndZ hi len st x k cnt tx ws t u ls).2.fb=x.fb)/\(k=2->(kndZ hi len st x k cnt tx ws t u ls).2.fb=x.fb):=by
 unfold kndZ
 by_cases k0:k=0
 ·rw[if_pos k0]
  refine⟨⟨Nat.le_refl _,h2⟩,fun j hj=>?_,fun h=>⟨rfl,?_⟩,fun h=>by omega⟩
  ·unfold efdZ
   split
   ·split
    ·exact putA_out hj _ _
    ·rfl
   ·rfl
  ·unfold efdZ at h ⊢
   split at h<;>rename_i e
   ·split at h<;>rename_i e2
    ·exact absurd rfl h
    ·rw[if_pos e,if_neg e2]
   ·rw[if_neg e]
 ·by_cases k1:k=1
  ·rw[if_neg k0,if_pos k1]
   unfold grpZ
   by_cases c1:1048576<grpW x.wt (ptT u) cnt
   ·rw[if_pos c1]
    exact⟨⟨Nat.le_refl _,h2⟩,fun _ _=>rfl,fun _=>⟨rfl,rfl⟩,fun h=>by omega⟩
   ·rw[if_neg c1]
    by_cases c2:C.pwE (C.dimG (ptT u)) len x.en (ptT u).siz (C.dimN (ptT u) (ptT u).blk cnt)=0
    ·rw[if_pos c2]
     exact⟨pwN_le h2,fun _ hj=>pwF_out h1 hj,fun h=>absurd rfl h,fun h=>by omega⟩
    ·rw[if_neg c2]
     exact⟨⟨Nat.le_refl _,h2⟩,fun _ _=>rfl,fun _=>⟨rfl,rfl⟩,fun h=>by omega⟩
  ·by_cases k2:k=2
   ·rw[if_neg k0,if_neg k1,if_pos k2]
    unfold nxtZ
    by_cases c1:C.clE len x.en t.blk=0
    ·rw[if_pos c1]
     exact⟨clN_le h2,fun _ _=>rfl,fun h=>absurd rfl h,fun _=>rfl⟩
    ·rw[if_neg c1]
     exact⟨⟨Nat.le_refl _,h2⟩,fun _ _=>rfl,fun _=>⟨rfl,rfl⟩,fun _=>rfl⟩
   ·rw[if_neg k0,if_neg k1,if_neg k2]
    unfold datZ
    by_cases c0:mx (ptT u).a.p<(tx.size:Int)
    ·rw[if_pos c0]
     exact⟨⟨Nat.le_refl _,h2⟩,fun _ _=>rfl,fun _=>⟨rfl,rfl⟩,fun h=>absurd h k2⟩
    ·rw[if_neg c0]
     by_cases c1:1048576<datW x.wt (ptT u) tx
     ·rw[if_pos c1]
      exact⟨⟨Nat.le_refl _,h2⟩,fun _ _=>rfl,fun _=>⟨rfl,rfl⟩,fun h=>absurd h k2⟩
     ·rw[if_neg c1]
      by_cases c2:C.pdE len x.en (ptT u) tx.size=0
      ·rw[if_pos c2]
       exact⟨pdN_le h2,fun _ hj=>pdF_out h1 hj,fun h=>absurd rfl h,fun h=>absurd h k2⟩
      ·rw[if_neg c2]
       exact⟨⟨Nat.le_refl _,h2⟩,fun _ _=>rfl,fun _=>⟨rfl,rfl⟩,fun h=>absurd h k2⟩
theorem step_bad {l:List Tk} {s:Ms} {k cnt:Int} {nm:ByteArray} (h:(stepZ l s k cnt nm).1≠0):(stepZ l s k cnt nm).2=s:=by
 unfold stepZ at h ⊢
 by_cases hr:k<0\/4<=k
 ·rw[if_pos hr]
 ·rw[if_neg hr] at h ⊢
  generalize (if k=0 then s.op else leaveR l s.op)=o at h ⊢
  cases o with
  | nil=>rfl
  | cons x r =>
   simp only at h ⊢
   by_cases k0:k=0
   ·rw[if_pos k0]
   ·rw[if_neg k0] at h ⊢
    by_cases k2:k=2
    ·rw[if_pos k2] at h ⊢
     by_cases c:x.left=0\/(x.begun=true/\wholeB l x=false)
     ·rw[if_pos c]
     ·rw[if_neg c] at h;exact absurd rfl h
    ·rw[if_neg k2] at h ⊢
     cases hm:memZ l x k nm with
     | none=>rfl
     | some q =>
      rw[hm] at h
      simp only at h ⊢
      by_cases k3:k=3
      ·rw[if_pos k3] at h;exact absurd rfl h
      ·rw[if_neg k3] at h ⊢
       by_cases c1:cnt<0\/gmax (bpAt l q)<cnt
       ·rw[if_pos c1]
       ·rw[if_neg c1] at h ⊢
        by_cases c2:65536-s.ent<cnt
        ·rw[if_pos c2]
        ·rw[if_neg c2] at h;exact absurd rfl h
theorem doZ_ok {f:Fm} {hi:Bool} {len st:Nat} {x:Es} (h1:st<=x.en) (h2:x.en<=len) (k cnt:Int) (nm tx:ByteArray) (ws:List Int) (t u:Tk) (ls:List Lf) :
  (x.en<=(doZ f hi len st x k cnt nm tx ws t u ls).2.en/\(doZ f hi len st x k cnt nm tx ws t u ls).2.en<=len)/\(∀ j,j<st\/(doZ f hi len st x k cnt nm tx ws t u ls).2.en<=j->(doZ f hi len st x k cnt nm tx ws t u ls).2.fb j=x.fb j) /\
   ((doZ f hi len st x k cnt nm tx ws t u ls).1≠0->(doZ f hi len st x k cnt nm tx ws t u ls).2.en=x.en/\(doZ f hi len st x k cnt nm tx ws t u ls).2.fb=x.fb/\(doZ f hi len st x k cnt nm tx ws t u ls).2.s=x.s)/\(k=2->(doZ f hi len st x k cnt nm tx ws t u ls).2.fb=x.fb):=by
 unfold doZ
 by_cases h0:(stepZ f.toks x.s k cnt nm).1=0
 ·rw[if_pos h0]
  have:=kndZ_ok (hi:=hi) (x:={ x with s:=(stepZ f.toks x.s k cnt nm).2 }) h1 h2 k cnt tx ws t u ls
  exact⟨this.1,this.2.1,fun h=>⟨(this.2.2.1 h).1,(this.2.2.1 h).2,if_neg h⟩,this.2.2.2⟩
 ·rw[if_neg h0]
  exact⟨⟨Nat.le_refl _,h2⟩,fun _ _=>rfl,fun _=>⟨rfl,rfl,step_bad h0⟩,fun _=>rfl⟩
theorem wrpZ_ok {f:Fm} {n:Pn} {t:Tk} {hi:Bool} {len a:Nat} {fb:Nat->Int} (h:(wrpZ f n t hi len fb (a:Int)).1=0) (ha:a<=len) :
  a<=(wrpZ f n t hi len fb (a:Int)).2.2.1/\(wrpZ f n t hi len fb (a:Int)).2.2.1<=len/\∀ j,j<a\/(wrpZ f n t hi len fb (a:Int)).2.2.1<=j->(wrpZ f n t hi len fb (a:Int)).2.1 j=fb j:=by
 unfold wrpZ at h ⊢
 by_cases c1:(a:Int)<0\/(len:Int)<(a:Int)
 ·omega
 ·rw[if_neg c1] at h ⊢
  by_cases c2:1048576<wrap64 (f.hsz+t.full)
  ·rw[if_pos c2] at h;cases h
  ·rw[if_neg c2] at h ⊢
   by_cases c3:(len:Int)-a<wrap64 (f.hsz+t.blk)
   ·rw[if_pos c3] at h;cases h
   ·rw[if_neg c3,Int.toNat_natCast]
    have e1:=pwN_le (g:=C.headG (hdF f)) (n:=f.hsz) (ns:=C.hdN (hdF f) (nuF n)) ha
    have e2:=clN_le (n:=t.blk) e1.2
    exact⟨by show a<=C.clN _ _ _;omega,e2.2,fun j hj=>pwF_out (Nat.le_refl _) (hj.imp id fun hj=>Nat.le_trans e2.1 hj)⟩
def zT:Tk:=⟨0,⟨#[]⟩,0,0,0,0,0,0,0,0,0,0,[],0,0,0,⟨0,0⟩,⟨0,0⟩,0⟩
abbrev zFm:Obj:=.cells #[.int .i64 0,.int .i64 0,.int .i64 0,.int .i64 0,.int .i64 0,.int .i64 0,.int .i64 0,.int .i64 0,.int .i64 0,.int .i64 0,.int .i64 0,.int .i64 0,.slice none 0 0] 30
abbrev oHd:Obj:=.cells #[.int .i64 8,.int .i64 6,.int .i64 0,.int .i64 6,.int .i64 2,.int .i64 6,.int .i64 4,.int .i64 6,.int .i64 6] 27
section
variable {P:Program} {ops:Array Oper} {C:World->Prop} {Q:Exit->Act->World->Prop} {d:Option Tmp} {ty:TypeId} {ps:String} {af:Array Edge} {gd:Option (Nat×Bool)} {r:List Oper} {a:Act} {w:World}
theorem lx_callw {f:FuncId} {v0 x1 x2:Operand} {y1 y2:Value} {tx:Array TypeId} {v:Value} {R:World->Prop} (hen:∀ ag w,(callFunc f ag).run P w = .ok (.enter f ag) w) (hc:Calls P f #[y1,y2] w fun e w'=>e = .returned v/\R w') (h0:a.eval v0 = .func (.func f) #[] #[]) (h1:a.eval x1=y1) (h2:a.eval x2=y2) (hw:Region.wanted ⟨d,.call { callee:=.value v0,args:=#[x1,x2],argTypes:=tx },ty,ps,af,gd⟩ (yielded ops a.tmps)=true)
  (h:∀ w',R w'->C w'/\Lx P ops C Q r (a.put d v) w'):Lx P ops C Q (⟨d,.call { callee:=.value v0,args:=#[x1,x2],argTypes:=tx },ty,ps,af,gd⟩::r) a w :=
 lx_act hw rfl fun K hK=>by
  unfold Oper.wp execOp
  simp only[resolve,invoke,Sem.run_bind,h0]
  simp[Deferred.ofValue,hen,Oper.upon_enter,h1,h2]
  refine hc.mono ?_
  rintro e w' ⟨rfl,hp⟩
  exact hK _ _ (h w' hp).1 (h w' hp).2
theorem lx_ldO {t:TypeId} {x:Operand} {p v:Value} (hl:∀ W,C W->(Instr.loadAt t p).run P W = .ok v W) (hx:a.eval x=p) (hw:Region.wanted ⟨d,.load t x,ty,ps,af,gd⟩ (yielded ops a.tmps)=true) (h:Lx P ops C Q r (a.put d v) w):Lx P ops C Q (⟨d,.load t x,ty,ps,af,gd⟩::r) a w :=
 lx_read hw rfl fun K hK=>⟨v,fun W hW=>by
  unfold Oper.quietAt execOp
  simp only[hx,hl W hW,Sem.run_bind,Result.andThen_ok,Sem.run_pure]
  exact⟨rfl,rfl⟩,hK _ h⟩
theorem lx_bs {t:TypeId} {n:Nat} {xs:Array (Nat×Operand)} {ys:Array (Nat×Value)} {v:Value} {w':World} (hr:(Instr.buildSlice t n ys).run P w = .ok v w') (hC:C w') (hx:(xs.map fun (i,x)=>(i,a.eval x))=ys) (hw:Region.wanted ⟨d,.buildSlice t n xs,ty,ps,af,gd⟩ (yielded ops a.tmps)=true) (h:Lx P ops C Q r (a.put d v) w'):Lx P ops C Q (⟨d,.buildSlice t n xs,ty,ps,af,gd⟩::r) a w :=
 lx_act hw rfl fun K hK=>by
  unfold Oper.wp execOp
  simp only[hx,hr,Sem.run_bind,Result.andThen_ok]
  exact hK _ _ hC h
end
def tkCs:List Tk->List Value
 | []=>[]
 | t::r=>tkC t none 0++tkCs r
theorem tkCs_get:∀ (l:List Tk) (i:Nat) (t:Tk),l[i]?=some t->∀ j,j<21->(tkCs l)[i*21+j]?=(tkC t none 0)[j]?
 | [],_,_,h,_,_=>by cases h
 | a::r,0,t,h,j,hj=>by
  cases h
  rw[tkCs,Nat.zero_mul,Nat.zero_add,List.getElem?_append_left (by show j<21;omega)]
 | a::r,i+1,t,h,j,hj=>by
  have ih:=tkCs_get r i t h j hj
  have hl:(tkC a none 0).length=21:=rfl
  rw[tkCs,List.getElem?_append_right (by omega),hl,<- ih]
  congr 1
  omega
theorem tkL_lit {w:World} {g H:Nat} {l:List Tk} (hg:w.heap[g]?=some (.cells (tkCs l).toArray 78)) (hH:g<H) (hl:l.length*192<=140737488355328) (hc:∀ t∈l,t.cst=[]/\TkOk t):TkL w (some ⟨g,0,none⟩) H l :=
 ⟨⟨fun i t ht=>by
  have h0:=(hc t (List.mem_of_getElem? ht)).1
  refine⟨g,0,none,0,rfl,hH,tkC_of fun j u hu=>?_,by rw[h0];exact URow.nil _ _ _,by rw[h0];exact Nat.le_refl _⟩
  rw[Nat.zero_add,cell_at hg,List.getElem?_toArray,tkCs_get l i t ht j (List.getElem?_eq_some_iff.1 hu).1]
  exact hu⟩,hl,fun t ht=>(hc t ht).2⟩
def iB (x:Int):Bool:=decide (-9223372036854775808<=x/\x<=9223372036854775807)
def uB (x:Int):Bool:=decide (0<=x/\x<=18446744073709551615)
def tokB (t:Tk):Bool:=t.cst.isEmpty&&iB t.op&&decide (t.name.size<=281474976710656)&&iB t.id&&iB t.off&&iB t.siz&&iB t.since&&iB t.prim&&iB t.len&&iB t.pres&&uB t.nul&&uB t.lo&&uB t.hi&&uB t.val&&iB t.blk&&iB t.full&&iB t.a.p&&iB t.a.o&&iB t.b.p&&iB t.b.o&&iB t.pair
theorem tokB_ok {t:Tk} (h:tokB t=true):t.cst=[]/\TkOk t:=by
 unfold tokB at h
 simp only[Bool.and_eq_true,List.isEmpty_iff,iB,uB,decide_eq_true_eq] at h
 obtain⟨⟨⟨⟨⟨⟨⟨⟨⟨⟨⟨⟨⟨⟨⟨⟨⟨⟨⟨⟨h0,h1⟩,h2⟩,h3⟩,h4⟩,h5⟩,h6⟩,h7⟩,h8⟩,h9⟩,h10⟩,h11⟩,h12⟩,h13⟩,h14⟩,h15⟩,h16⟩,h17⟩,h18⟩,h19⟩,h20⟩:=h
 exact⟨h0,⟨h1,h2,h3,h4,h5,h6,h7,h8,h9,h10,h11,h12,by rw[h0];decide,by rw[h0];simp,h13,h14,h15,h16,h17,h18,h19,h20⟩⟩
theorem infoHdO:(Tryz.prog.info? 27).map (·.size)=some 9:=by kernel_rfl
theorem infoFmO:(Tryz.prog.info? 30).map (·.size)=some 13:=by kernel_rfl
theorem fmC_one (f:Fm) (pp:Option Addr) (cp:Nat):(#[.int .i64 f.ord,.int .i64 f.sch,.int .i64 f.ver,.int .i64 f.hsz,.int .i64 f.hb.p,.int .i64 f.hb.o,.int .i64 f.ht.p,.int .i64 f.ht.o,.int .i64 f.hs.p,.int .i64 f.hs.o,.int .i64 f.hv.p,.int .i64 f.hv.o,.slice pp f.toks.length cp]:Array Value).all (·.oneCell')=true:=by kernel_rfl
theorem fm_st {w:World} {b:Nat} {old:Array Value} (hb:w.heap[b]?=some (.cells old 30)) (ho:old.size=13) (f:Fm) (pp:Option Addr) (cp:Nat):(Instr.storeAt 30 (.pointer (some ⟨b,0,none⟩)) (fmV f pp cp)).run Tryz.prog w = .ok () (w.setRow b #[.int .i64 f.ord,.int .i64 f.sch,.int .i64 f.ver,.int .i64 f.hsz,.int .i64 f.hb.p,.int .i64 f.hb.o,.int .i64 f.ht.p,.int .i64 f.ht.o,.int .i64 f.hs.p,.int .i64 f.hs.o,.int .i64 f.hv.p,.int .i64 f.hv.o,.slice pp f.toks.length cp]):=by
 simp only[Instr.storeAt,Instr.sureAddr,Sem.run_bind,Sem.run_pure,Result.andThen]
 exact run_storeVar_row _ _ _ _ _ _ hb infoFmO (by rw[ho];rfl) (fmC_one f pp cp)
theorem hd_ld {w:World} {b:Nat} (hb:w.heap[b]?=some oHd):(Instr.loadAt 27 (.pointer (some ⟨b,0,none⟩))).run Tryz.prog w = .ok (.agg #[.int .i64 8,.int .i64 6,.int .i64 0,.int .i64 6,.int .i64 2,.int .i64 6,.int .i64 4,.int .i64 6,.int .i64 6]) w:=by
 simp only[Instr.loadAt,Instr.sureAddr,Sem.run_bind,Sem.run_pure,Result.andThen]
 exact run_loadVar_row _ _ _ _ _ _ _ hb Tryz.underlying27 rfl infoHdO
def eT0:Tk:={ zT with op:=0,name:=⟨#[77]⟩,id:=3,blk:=1,full:=1,pair:=6 }
def eT1:Tk:={ zT with op:=2,name:=⟨#[97]⟩,id:=1,siz:=1,pair:=3 }
def eT2:Tk:={ zT with op:=14,name:=⟨#[117,105,110,116,56]⟩,siz:=1,prim:=5,len:=1,nul:=255,hi:=254,pair:=2 }
def eT3:Tk:={ zT with op:=3,name:=⟨#[97]⟩,pair:=1 }
def eT4:Tk:={ zT with op:=6,name:=⟨#[100]⟩,id:=2,siz:=1,a:=⟨5,0⟩,pair:=5 }
def eT5:Tk:={ zT with op:=7,name:=⟨#[100]⟩,pair:=4 }
def eT6:Tk:={ zT with op:=1,name:=⟨#[77]⟩,pair:=0 }
def eL:List Tk:=[eT0,eT1,eT2,eT3,eT4,eT5,eT6]
def eF:Fm:=⟨0,7,1,8,⟨6,0⟩,⟨6,2⟩,⟨6,4⟩,⟨6,6⟩,eL⟩
theorem eF_chk:chkZ eF=none:=by decide +kernel
theorem eL_toks:∀ t∈eL,t.cst=[]/\TkOk t:=by
 have h:eL.all tokB=true:=by decide +kernel
 exact fun t ht=>tokB_ok (List.all_eq_true.1 h t ht)
theorem eL_bs (W:World):(Instr.buildSlice 28 7 #[(0,tkV eT0 none 0),(1,tkV eT1 none 0),(2,tkV eT2 none 0),(3,tkV eT3 none 0),(4,tkV eT4 none 0),(5,tkV eT5 none 0),(6,tkV eT6 none 0)]).run Tryz.prog W = .ok (.slice (some ⟨W.heap.size,0,none⟩) 7 7) (W.alloc (.cells (tkCs eL).toArray 78)):=by kernel_rfl
theorem eown1_any (p n:Int) (w:World):Calls Tryz.prog 29 #[.int .i64 p,.int .i64 n] w fun r w'=>r = .returned (.agg #[.int .i64 p,.int .i64 n])/\Below w.heap.size w w':=by
 have hh:=heap_al w (.cells #[.int .i64 p,.int .i64 n] 25)
 have h0:(w.alloc (.cells #[.int .i64 p,.int .i64 n] 25)).cell? ⟨w.heap.size,0,none⟩=some (.int .i64 p):=cell_at hh 0
 have h1:(w.alloc (.cells #[.int .i64 p,.int .i64 n] 25)).cell? ⟨w.heap.size,1,none⟩=some (.int .i64 n):=cell_at hh 1
 have hB:Hid (Below w.heap.size w (w.alloc (.cells #[.int .i64 p,.int .i64 n] 25))):=⟨bel1 _ _⟩
 clear hh
 go_enter Tryz.func29,Tryz.ntmps29
 go_wp2_with fail
 refine bodyPost_ret (v:=.agg #[.int .i64 p,.int .i64 n]) ?_ rfl ⟨rfl,hB.out⟩
 simp[results,Tryz.results29,go_sem,h0,h1]
theorem ent_eown1:∀ ag w,(callFunc 29 ag).run Tryz.prog w = .ok (.enter 29 ag) w:=enters_of Tryz.func29 (by kernel_rfl) rfl
theorem clsE1 (wr:World) (g:Nat) (hg:wr.heap[g]?=some oHd):∃ p:World->Prop,p wr.drew/\(∀ W,p W↔(W.heap[g]?=some oHd/\wr.heap.size<=W.heap.size))/\Nonempty (CW p) /\
  (∀ W,(∃ θ:CW p,W=θ.w)->(Instr.loadAt 27 (.pointer (some ⟨g,0,none⟩))).run Tryz.prog W = .ok (.agg #[.int .i64 8,.int .i64 6,.int .i64 0,.int .i64 6,.int .i64 2,.int .i64 6,.int .i64 4,.int .i64 6,.int .i64 6]) W) :=
 ⟨fun W=>W.heap[g]?=some oHd/\wr.heap.size<=W.heap.size,⟨hg,Nat.le_refl _⟩,fun _=>Iff.rfl,⟨⟨wr,hg,Nat.le_refl _⟩⟩,by
  rintro _ ⟨θ,rfl⟩
  exact hd_ld θ.h.1⟩
section
variable {P:Program} {ops:Array Oper} {C:World->Prop} {Q:Exit->Act->World->Prop} {d:Option Tmp} {ty:TypeId} {ps:String} {af:Array Edge} {gd:Option (Nat×Bool)} {r:List Oper} {a:Act} {w:World}
theorem lx_stO {t:TypeId} {x y:Operand} {q v:Value} {w':World} (hs:(Instr.storeAt t q v).run P w = .ok () w') (hC:C w') (hx:a.eval x=q) (hy:a.eval y=v) (hw:Region.wanted ⟨d,.store t x y,ty,ps,af,gd⟩ (yielded ops a.tmps)=true) (h:Lx P ops C Q r (a.put d undef) w'):Lx P ops C Q (⟨d,.store t x y,ty,ps,af,gd⟩::r) a w :=
 lx_act hw rfl fun K hK=>by
  unfold Oper.wp execOp
  simp only[hx,hy,hs,Sem.run_bind,Result.andThen_ok,Sem.run_pure]
  exact hK _ _ hC h
end
theorem eown_any (w:World):Calls Tryz.prog 11 #[] w fun r w'=>∃ g,r = .returned (fmV eF (some ⟨g,0,none⟩) 7)/\TkL w' (some ⟨g,0,none⟩) w'.heap.size eL/\Below w.heap.size w w':=by
 have hB:Hid (Below (w.alloc zFm).heap.size (w.alloc zFm) (w.alloc zFm)):=⟨Below.refl _ _⟩
 go_enter Tryz.func11,Tryz.ntmps11
 go_upto_region 3 with (go_at_call 29;refine(eown1_any _ _ _).mono ?_;rintro _ w1 ⟨rfl,hb1⟩;replace hB:Hid (Below (w.alloc zFm).heap.size (w.alloc zFm) w1):=⟨hB.out.trans (hb1.mono hB.out.size)⟩;clear hb1)
 have hH:(w1.alloc oHd).heap[w1.heap.size]?=some oHd:=heap_al _ _
 have hs1:(w1.alloc oHd).heap.size=w1.heap.size+1:=World.size_alloc _ _
 have e3:=hB.out.size
 have e4:(w.alloc zFm).heap.size=w.heap.size+1:=World.size_alloc _ _
 replace hB:Hid (Below (w.alloc zFm).heap.size (w.alloc zFm) (w1.alloc oHd)):=⟨hB.out.alloc hB.out.size _⟩
 generalize w1.alloc oHd=W1 at hH hs1 hB ⊢
 have e5:=hB.out.size
 obtain⟨p,p0,pI,pN,pL⟩:=clsE1 W1 w1.heap.size hH
 refine wp_region_pp p [0,1,2,3,4,5,8,9,6,7,10,11,12] (by kernel_rfl) (by kernel_rfl) (fun _ _ d _ _ h=>by cases d<;>exact h) p0 ?_
 simp only[List.filterMap_cons,List.filterMap_nil,List.getElem?_cons_zero,List.getElem?_cons_succ]
 repeat (first|(guard_target =~ Lx _ _ _ _ (Oper.mk _ (Op.call _) _ _ _ _::_) _ _;fail)|(guard_target =~ Lx _ _ _ _ (Oper.mk _ (Op.load 27 _) _ _ _ _::_) _ _;refine lx_ldO pL rfl rfl ?_;simp only[pts])|(refine lx_one rfl ?_;(first|go_big_quiet_skip|(go_big_quiet_want;go_big_quiet_op;go_big_quiet_on));refine wpQuiet_nil ?_))
 refine lx_callw ent_eown1 (eown1_any _ _ _) rfl rfl rfl (by rfl) ?_
 intro W2 hB2
 have hH2:=(hB2.block w1.heap.size (by show w1.heap.size<W1.heap.size;omega)).trans hH
 have hz2:W1.heap.size<=W2.heap.size:=hB2.size
 refine⟨⟨⟨W2,(pI _).2 ⟨hH2,hz2⟩⟩,rfl⟩,?_⟩
 simp only[pts]
 refine lx_one rfl ?_
 (first|go_big_quiet_skip|(go_big_quiet_want;go_big_quiet_op;go_big_quiet_on))
 refine wpQuiet_nil ?_
 have b3:=bel1 W2 (.cells (tkCs eL).toArray 78)
 have g3:(W2.alloc (.cells (tkCs eL).toArray 78)).heap[W2.heap.size]?=some (.cells (tkCs eL).toArray 78):=heap_al _ _
 have z3:(W2.alloc (.cells (tkCs eL).toArray 78)).heap.size=W2.heap.size+1:=World.size_alloc _ _
 have hH3:=(b3.block w1.heap.size (by omega)).trans hH2
 refine lx_bs (eL_bs W2) ⟨⟨_,(pI _).2 ⟨hH3,by omega⟩⟩,rfl⟩ (by kernel_rfl) (by rfl) ?_
 generalize W2.alloc (.cells (tkCs eL).toArray 78)=W3 at b3 g3 z3 hH3 ⊢
 simp only[pts]
 refine lx_one rfl ?_
 (first|go_big_quiet_skip|(go_big_quiet_want;go_big_quiet_op;go_big_quiet_on))
 refine wpQuiet_nil ?_
 have Z3:W3.heap[w.heap.size]?=some zFm:=(b3.block _ (by omega)).trans ((hB2.block _ (by show w.heap.size<W1.heap.size;omega)).trans ((hB.out.block _ (by omega)).trans (heap_al _ _)))
 have hH4:=(setRow_other W3 w.heap.size w1.heap.size #[.int .i64 eF.ord,.int .i64 eF.sch,.int .i64 eF.ver,.int .i64 eF.hsz,.int .i64 eF.hb.p,.int .i64 eF.hb.o,.int .i64 eF.ht.p,.int .i64 eF.ht.o,.int .i64 eF.hs.p,.int .i64 eF.hs.o,.int .i64 eF.hv.p,.int .i64 eF.hv.o,.slice (some ⟨W2.heap.size,0,none⟩) eF.toks.length 7] (by omega)).trans hH3
 refine lx_stO (fm_st Z3 rfl eF (some ⟨W2.heap.size,0,none⟩) 7) ⟨⟨_,(pI _).2 ⟨hH4,by rw[size_setRow];omega⟩⟩,rfl⟩ rfl (by kernel_rfl) (by rfl) ?_
 simp only[pts]
 refine lx_done ?_
 have B3:Below w.heap.size w W3:=((bel1 w zFm).trans (drw (hB.out.mono (by omega)))).trans ((hB2.mono (by show w.heap.size<=W1.heap.size;omega)).trans (b3.mono (by omega)))
 have hne:w.heap.size≠W2.heap.size:=by omega
 clear hH4 hH3 hH2 hH hs1 hB p0 pI pN pL hB2 b3
 replace Z3:=Hid.mk Z3
 replace g3:=Hid.mk g3
 replace B3:=Hid.mk B3
 go_wp2_with fail
 refine bodyPost_ret (results_cell_row rfl _ _ w.heap.size 30 _ (0,0) _ rfl (setRow_heap _ _ _ _ _ _ Z3.out) Tryz.underlying30 rfl infoFmO) rfl ⟨W2.heap.size,rfl,?_,?_⟩
 ·refine tkL_lit ((setRow_other _ _ _ _ hne.symm).trans g3.out) ?_ (by decide) eL_toks
  rw[size_setRow]
  omega
 ·exact B3.out.trans ⟨rfl,rfl,rfl,by rw[size_setRow];exact Nat.le_refl _,fun k hk=>setRow_other _ _ _ _ (by omega)⟩
def eN:Pn:=numZ eF eT0
def xB:Nat->Int:=fun _=>120
def ex0:Es:=⟨newZ,(wrpZ eF eN eT0 false 13 xB 1).2.2.1,(wrpZ eF eN eT0 false 13 xB 1).2.1,(wrpZ eF eN eT0 false 13 xB 1).2.2.2.1,(wrpZ eF eN eT0 false 13 xB 1).2.2.2.2⟩
def eD (x:Es) (k:Int) (nm tx:ByteArray) (ws:List Int) (u:Tk) (ls:List Lf):Int×Es:=doZ eF false 13 1 x k 0 nm tx ws u u ls
def ex1:Es:=(eD ex0 3 ⟨#[101]⟩ ⟨#[]⟩ [] eT4 []).2
def ex2:Es:=(eD ex1 0 ⟨#[97]⟩ ⟨#[]⟩ [9] eT1 (ptL eL 1 eT1)).2
def ex3:Es:=(eD ex2 0 ⟨#[97]⟩ ⟨#[]⟩ [256] eT1 (ptL eL 1 eT1)).2
def ex4:Es:=(eD ex3 3 ⟨#[100]⟩ ⟨#[104,101,121]⟩ [] eT4 []).2
def ex5:Es:=(eD ex4 3 ⟨#[100]⟩ ⟨#[104]⟩ [] eT4 []).2
theorem ew_0:(wrpZ eF eN eT0 false 13 xB 1).1=0/\ex0.en=10/\doneB eL ex0.s=false:=by decide +kernel
theorem ew_1:(eD ex0 3 ⟨#[101]⟩ ⟨#[]⟩ [] eT4 []).1=140/\ex1.en=10:=by decide +kernel
theorem ew_2:(eD ex1 0 ⟨#[97]⟩ ⟨#[]⟩ [9] eT1 (ptL eL 1 eT1)).1=0:=by decide +kernel
theorem ew_3:(eD ex2 0 ⟨#[97]⟩ ⟨#[]⟩ [256] eT1 (ptL eL 1 eT1)).1=162:=by decide +kernel
theorem ew_4:(eD ex3 3 ⟨#[100]⟩ ⟨#[104,101,121]⟩ [] eT4 []).1=11:=by decide +kernel
theorem ew_5:(eD ex4 3 ⟨#[100]⟩ ⟨#[104]⟩ [] eT4 []).1=0/\ex5.en=12/\doneB eL ex5.s=true:=by decide +kernel
theorem ew_6:(List.range 13).map ex5.fb=[120,1,0,3,0,7,0,1,0,9,1,104,120]:=by decide +kernel
theorem ord_hi {f:Fm} (hz:chkZ f=none):∃ hi,f.ord=C.ordV hi:=by
 unfold chkZ at hz
 split at hz
 ·rename_i h
  simp only[headB,Bool.and_eq_true] at h
  rcases of_decide_eq_true h.1.1.1.1.1.1 with e|e
  ·exact⟨false,e⟩
  ·exact⟨true,e⟩
 ·cases hz
structure E0I (f:Fm) (B e T:Nat) (W:World):Prop where
 h:∃ n S0 S1 pa pm ma cu wt bl,E0 f n S0 S1 pa pm e ma cu false wt bl W/\(∃ t,f.toks[0]?=some t/\n=numZ f t)/\B<=S1/\S1<=T/\cu<T/\B<=cu/\W.cell? ⟨cu,2,none⟩=some (.int .i64 0)
 b:B<=e/\e<T/\T<=W.heap.size
theorem E0I.below {f:Fm} {B e T:Nat} {W W':World} (h:E0I f B e T W) (hb:Below W.heap.size W W'):E0I f B e T W':=by
 obtain⟨n,S0,S1,pa,pm,ma,cu,wt,bl,h1,h2,h3,h4,h5,h6,h7⟩:=h.h
 have hT:=h.b.2.2
 exact⟨⟨n,S0,S1,pa,pm,ma,cu,wt,bl,h1.below hb,h2,h3,h4,h5,h6,(hb.cell (p:=⟨cu,2,none⟩) (by show cu<W.heap.size;omega)).trans h7⟩,h.b.1,h.b.2.1,Nat.le_trans hT hb.size⟩
theorem E0I.new {f:Fm} (hz:chkZ f=none) {pp:Option Addr} {cp:Nat} (hcp:f.toks.length<=cp) {w:World} (tl:TkL w pp w.heap.size f.toks) (kt:KT w) (mt:MT w) :
  Calls Tryz.prog 5 #[fmV f pp cp] w fun r w'=>∃ e,r = .returned (.tuple #[pV e,.int .i64 0])/\E0I f w.heap.size e w'.heap.size w'/\Below w.heap.size w w':=by
 obtain⟨hi,ho⟩:=ord_hi hz
 refine(eNew_yes f hz pp cp hcp w (chkC_of f pp cp w tl kt mt) tl kt hi ho).mono ?_
 rintro r w' ⟨e,n,S0,S1,pa,pm,ma,cu,rfl,h1,h2,h3,h4,h5,h6,hb⟩
 have p1:=h1.ev.pl
 obtain⟨q1,q2,-⟩:=p1
 have q3:=h1.ev.le
 have q4:=h1.ne
 have q5:=(Array.getElem?_eq_some_iff.1 h1.eo).1
 have q6:cu<w'.heap.size:=World.block_lt_of_cell? w' _ h6
 exact⟨e,rfl,⟨⟨n,S0,S1,pa,pm,ma,cu,0,0,h1,h2,by omega,q3,q6,by omega,h6⟩,by omega,q5,Nat.le_refl _⟩,hb⟩
theorem E0I.end_ {f:Fm} {B e T:Nat} {W:World} (h:E0I f B e T W):Calls Tryz.prog 7 #[pV e] W fun r w'=>r = .returned (.int .i64 0)/\w'=W:=by
 obtain⟨n,S0,S1,pa,pm,ma,cu,wt,bl,h1,h2,h3,h4,h5,h6,h7⟩:=h.h
 exact End_any (cell_at h1.eo 1) h7
theorem E0I.done {f:Fm} {B e T:Nat} {W:World} (h:E0I f B e T W):Calls Tryz.prog 8 #[pV e] W fun r w'=>r = .returned (.bool false)/\w'=W:=by
 obtain⟨n,S0,S1,pa,pm,ma,cu,wt,bl,h1,h2,h3,h4,h5,h6,h7⟩:=h.h
 exact Done_no (cell_at h1.eo 22)
theorem E0I.do_ {f:Fm} {B e T:Nat} {W:World} (h:E0I f B e T W) (c:Cl):Calls Tryz.prog 10 #[pV e,caV c] W fun r w'=>∃ v,r = .returned (.int .i64 v)/\v=180/\E0I f B e T w'/\Below W.heap.size W w':=by
 obtain⟨n,S0,S1,pa,pm,ma,cu,wt,bl,h1,h2,h3,h4,h5,h6,h7⟩:=h.h
 exact(Do_none c (cell_at h1.eo 22)).mono fun r w' hP=>⟨180,hP.1,rfl,h.below hP.2,hP.2⟩
structure EwI (f:Fm) (B e g len cap st:Nat) (hi:Bool) (x:Es) (V:Nat->Prop) (W:World):Prop where
 h:∃ n S0 S1 pa pm ma cu U,EnX f n S0 S1 pa pm e ma cu U g len cap st hi x W/\V=Wr e cu g U
 v:∀ k,V k->B<=k/\k<W.heap.size
theorem EwI.below {f:Fm} {B e g len cap st:Nat} {hi:Bool} {x:Es} {V:Nat->Prop} {W W':World} (h:EwI f B e g len cap st hi x V W) (hb:Below W.heap.size W W'):EwI f B e g len cap st hi x V W':=by
 obtain⟨n,S0,S1,pa,pm,ma,cu,U,h1,h2⟩:=h.h
 exact⟨⟨n,S0,S1,pa,pm,ma,cu,U,h1.blw h1.blt hb,h2⟩,fun k hk=>⟨(h.v k hk).1,Nat.lt_of_lt_of_le (h.v k hk).2 hb.size⟩⟩
theorem EwI.row {f:Fm} {B e g len cap st:Nat} {hi:Bool} {x:Es} {V:Nat->Prop} {W:World} (h:EwI f B e g len cap st hi x V W):C.RowM W g 5 cap (fun j=>.int .u8 (x.fb j)):=by
 obtain⟨n,S0,S1,pa,pm,ma,cu,U,h1,h2⟩:=h.h
 exact h1.cs.row
theorem EwI.rng {f:Fm} {B e g len cap st:Nat} {hi:Bool} {x:Es} {V:Nat->Prop} {W:World} (h:EwI f B e g len cap st hi x V W):st<=x.en/\x.en<=len/\len<=cap/\V g/\V e:=by
 obtain⟨n,S0,S1,pa,pm,ma,cu,U,h1,rfl⟩:=h.h
 exact⟨h1.cs.h1,h1.cs.h2,h1.cs.h3,.inr (.inr (.inl rfl)),.inl rfl⟩
theorem EwI.end_ {f:Fm} {B e g len cap st:Nat} {hi:Bool} {x:Es} {V:Nat->Prop} {W:World} (h:EwI f B e g len cap st hi x V W):Calls Tryz.prog 7 #[pV e] W fun r w'=>r = .returned (.int .i64 (x.en:Int))/\w'=W:=by
 obtain⟨n,S0,S1,pa,pm,ma,cu,U,h1,h2⟩:=h.h
 exact End_any (cell_at h1.eo 1) h1.cs.too
theorem EwI.done {f:Fm} {B e g len cap st:Nat} {hi:Bool} {x:Es} {V:Nat->Prop} {W:World} (h:EwI f B e g len cap st hi x V W):Calls Tryz.prog 8 #[pV e] W fun r w'=>r = .returned (.bool (doneB f.toks x.s))/\EwI f B e g len cap st hi x V w'/\Below W.heap.size W w':=by
 obtain⟨n,S0,S1,pa,pm,ma,cu,U,h1,h2⟩:=h.h
 obtain⟨lo,hi',m1,m2,m3⟩:=h1.mc
 exact(Done_yes m1 (cell_at h1.eo 0) (cell_at h1.eo 22)).mono fun r w' hP=>⟨hP.1,h.below hP.2,hP.2⟩
theorem WsC.weak {V V':Nat->Prop} {q:Option Addr} {cp:Nat} {ws:List Int} {W:World} (h:WsC V q cp ws W) (hv:∀ k,V' k->V k):WsC V' q cp ws W :=
 ⟨h.len,h.cap,h.bd,fun j y hy=>by obtain⟨gw,ow,e1,e2,e3⟩:=h.at' j y hy;exact⟨gw,ow,e1,fun h=>e2 (hv _ h),e3⟩⟩
theorem EwI.do_ {f:Fm} {B e g len cap st:Nat} {hi:Bool} {x:Es} {V:Nat->Prop} {W:World} (h:EwI f B e g len cap st hi x V W) (hz:chkZ f=none) (hl:f.toks.length<=733007751850) (c:Cl) (hco:i64ok c.cnt) (hnm:c.nm.size<=maxLen) (hts:c.tx.size<=281474976710656)
  (q:Option Addr) (cp:Nat) (ws:List Int) (hq:c.ws = .slice q ws.length cp) (hw:WsC V q cp ws W) :
  ∃ t k u,((stepZ f.toks x.s c.k c.cnt c.nm).1=0->f.toks[insZ (stepZ f.toks x.s c.k c.cnt c.nm).2]?=some t/\(c.k≠2->f.toks[k]?=some u/\k∈kidsZ f.toks (insZ (stepZ f.toks x.s c.k c.cnt c.nm).2)/\u.name=c.nm)) /\
  Calls Tryz.prog 10 #[pV e,caV c] W fun r w'=>r = .returned (.int .i64 (doZ f hi len st x c.k c.cnt c.nm c.tx ws t u (ptL f.toks k u)).1)/\∃ V',EwI f B e g len cap st hi (doZ f hi len st x c.k c.cnt c.nm c.tx ws t u (ptL f.toks k u)).2 V' w'/\(∀ k,V' k->V k\/W.heap.size<=k)/\Frm V W w':=by
 obtain⟨n,S0,S1,pa,pm,ma,cu,U,h1,rfl⟩:=h.h
 obtain⟨t,k,u,h2,h3⟩:=Do_go h1 hz hl c hco hnm hts q cp ws hq (hw.weak fun k hk=>hk.elim (fun h=>.inr (.inr (.inl h))) fun h=>.inr (.inr (.inr h)))
 refine⟨t,k,u,h2,h3.mono ?_⟩
 rintro r w' ⟨rfl,ma',U',k1,k2,k3⟩
 have hc:∀ k,Wr e cu g U' k->Wr e cu g U k\/W.heap.size<=k:=by
  rintro k (hk|hk|hk|hk)
  ·exact .inl (.inl hk)
  ·exact .inl (.inr (.inl hk))
  ·exact .inl (.inr (.inr (.inl hk)))
  ·exact(k2 k hk).elim (fun h=>.inl (.inr (.inr (.inr h)))) .inr
 have hB:=h.v e (.inl rfl)
 have hb:=k1.blt
 refine⟨rfl,_,⟨⟨n,S0,S1,pa,pm,ma',cu,U',k1,rfl⟩,fun k hk=>⟨?_,?_⟩⟩,hc,k3⟩
 ·rcases hc k hk with hk' | hk'
  ·exact(h.v k hk').1
  ·omega
 ·rcases hk with rfl|rfl|rfl|hk
  ·exact hb.e
  ·exact hb.c
  ·exact hb.g
  ·exact hb.u k hk
theorem E0I.wrapno {f:Fm} {B e T:Nat} {W:World} (h:E0I f B e T W) (hz:chkZ f=none) (p:Option Addr) (len cap:Nat) (a:Int) (ha:a<0\/(len:Int)<a) :
  Calls Tryz.prog 6 #[pV e,.slice p len cap,.int .i64 a] W fun r w'=>r = .returned (.int .i64 170)/\E0I f B e T w'/\Below W.heap.size W w':=by
 obtain⟨n,S0,S1,pa,pm,ma,cu,wt,bl,h1,h2,h3,h4,h5,h6,h7⟩:=h.h
 obtain⟨hi,ho⟩:=ord_hi hz
 exact(Wrap_no h1 hi ho p len cap a ha).mono fun r w' hP=>⟨hP.1,h.below hP.2,hP.2⟩
theorem E0I.wrap {f:Fm} {B e T:Nat} {W:World} (h:E0I f B e T W) (hz:chkZ f=none) (hl:f.toks.length<=733007751850) {hi:Bool} (ho:f.ord=C.ordV hi) {g cap:Nat} (len:Nat) {fb:Nat->Int} (row:C.RowM W g 5 cap (fun j=>.int .u8 (fb j))) (bd:∀ j,0<=fb j/\fb j<=255) (h3:len<=cap) (h4:len<=140737488355328) (hg:T<=g) (a:Nat) (ha:a<=len) :
  ∃ t,f.toks[0]?=some t/\Calls Tryz.prog 6 #[pV e,.slice (some ⟨g,0,none⟩) len cap,.int .i64 (a:Int)] W fun r w'=>r = .returned (.int .i64 (wrpZ f (numZ f t) t hi len fb (a:Int)).1)/\(((wrpZ f (numZ f t) t hi len fb (a:Int)).1≠0/\E0I f B e T w'/\Below W.heap.size W w') \/
   ((wrpZ f (numZ f t) t hi len fb (a:Int)).1=0/\∃ V,EwI f B e g len cap a hi ⟨newZ,(wrpZ f (numZ f t) t hi len fb (a:Int)).2.2.1,(wrpZ f (numZ f t) t hi len fb (a:Int)).2.1,(wrpZ f (numZ f t) t hi len fb (a:Int)).2.2.2.1,(wrpZ f (numZ f t) t hi len fb (a:Int)).2.2.2.2⟩ V w'/\Frm (fun k=>k=e\/k=g) W w')):=by
 obtain⟨n,S0,S1,pa,pm,ma,cu,wt,bl,h1,⟨t,ht,hn⟩,hB,h5,h6,h7,h8⟩:=h.h
 obtain⟨t',ht',hop⟩:=first_msg hz
 obtain rfl:t'=t:=Option.some.inj (ht'.symm.trans ht)
 subst hn
 have hbt:=h.b
 refine⟨t',ht,(Wrap_any h1 hi ho hl t' ht hop rfl g len cap fb row bd h3 h4 (by omega) (by omega) a ha).mono ?_⟩
 rintro r w' ⟨rfl,hP|⟨k0,c,ma2,U2,k1,k2,k3,k4⟩⟩
 ·exact⟨rfl,.inl ⟨hP.1,h.below hP.2,hP.2⟩⟩
 ·have hb:=k1.blt
  refine⟨rfl,.inr ⟨k0,_,⟨⟨_,S0,S1,pa,pm,ma2,c,U2,k1,rfl⟩,fun k hk=>⟨?_,?_⟩⟩,k4⟩⟩
  ·rcases hk with rfl|rfl|rfl|hk
   ·omega
   ·omega
   ·omega
   ·have:=k2 k hk;omega
  ·rcases hk with rfl|rfl|rfl|hk
   ·exact hb.e
   ·exact hb.c
   ·exact hb.g
   ·exact hb.u k hk
namespace C
structure Op1 where
 k:Int
 at_:Int
 n:Int
 p:Int
 x:Int
 s:ByteArray
 h:Hd
 v:Four
 t:Tk
section
variable (hi:Bool) (len st en:Nat) (f:Nat->Int) (o:Op1)
end
section
variable {hi:Bool} {len st en:Nat} {f:Nat->Int}
theorem lay_out {a n:Nat} {t:ByteArray} {j:Nat} (h:j<a\/a+n<=j):lay f a n t j=f j:=by
 unfold lay
 rw[if_neg (by omega)]
theorem wrF_out {size:Int} {ns:List Nb} (h1:st<=en) {j:Nat} (hj:j<st\/wrN len en size ns<=j):wrF hi len st en f size ns j=f j:=by
 unfold wrF
 unfold wrN at hj
 split
 ·rename_i e
  rw[if_pos e] at hj
  rw[puts_out hj]
  exact lay_out (by omega)
 ·rfl
end
end C
end Go.Proofs.YtjlbcdnkglaheaaGreatDoor

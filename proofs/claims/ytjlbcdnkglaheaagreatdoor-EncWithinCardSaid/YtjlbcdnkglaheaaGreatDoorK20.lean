import Derived.Test.YtjlbcdnkglaheaaGreatDoorK19
namespace Go.Proofs.YtjlbcdnkglaheaaGreatDoor
set_option maxRecDepth 1000000
set_option maxHeartbeats 16000000
structure Keys (l:List Tk) (o:List Sc) (i:Nat) (ids:List Int) (H1:Int->Prop) (H2:Nat->ByteArray->Prop) (H3:Nat->Int->Prop):Prop where
 id:∀ d,H1 d↔ids.contains d=true
 nm:∀ s∈o,(s.tk.op=0\/s.tk.op=4)->∀ n,H2 s.at_ n↔nameIn l s.kids n=true
 ch:∀ s∈o,(s.tk.op=10\/s.tk.op=12)->∀ n,H2 s.at_ n↔nameIn l s.kids.tail n=true
 vl:∀ s∈o,(s.tk.op=10\/s.tk.op=12)->∀ v,H3 s.at_ v↔valIn l s.kids.tail v=true
 no:∀ k,i<=k->(∀ n,¬ H2 k n)/\∀ v,¬ H3 k v
theorem Keys.up {l:List Tk} {o:List Sc} {i:Nat} {ids:List Int} {H1:Int->Prop} {H2:Nat->ByteArray->Prop} {H3:Nat->Int->Prop} (h:Keys l o i ids H1 H2 H3):Keys l o (i+1) ids H1 H2 H3:=⟨h.id,h.nm,h.ch,h.vl,fun k hk=>h.no k (by omega)⟩
theorem nameIn_snoc {l:List Tk} {ks:List Nat} {i:Nat} {t:Tk} (ht:l[i]?=some t) (n:ByteArray):nameIn l (ks++[i]) n=true↔t.name=n\/nameIn l ks n=true:=by
 unfold nameIn
 rw[List.any_append,Bool.or_eq_true]
 simp[ht,or_comm]
theorem valIn_snoc {l:List Tk} {ks:List Nat} {i:Nat} {t:Tk} (ht:l[i]?=some t) (v:Int):valIn l (ks++[i]) v=true↔t.val=v\/valIn l ks v=true:=by
 unfold valIn
 rw[List.any_append,Bool.or_eq_true]
 simp[ht,or_comm]
theorem keys_end {l:List Tk} {o:List Sc} {i:Nat} {ids:List Int} {H1:Int->Prop} {H2:Nat->ByteArray->Prop} {H3:Nat->Int->Prop} (h:Keys l o i ids H1 H2 H3):Keys l o.tail (i+1) ids H1 H2 H3 :=
 ⟨h.id,fun s hs=>h.nm s (List.mem_of_mem_tail hs),fun s hs=>h.ch s (List.mem_of_mem_tail hs),fun s hs=>h.vl s (List.mem_of_mem_tail hs),fun k hk=>h.no k (by omega)⟩
theorem keys_beg {l:List Tk} {o:List Sc} {i:Nat} {ids:List Int} {H1:Int->Prop} {H2:Nat->ByteArray->Prop} {H3:Nat->Int->Prop} {t:Tk} (h:Keys l o i ids H1 H2 H3):Keys l (scNew i t::o) i ids H1 H2 H3:=by
 have hn:=h.no i (Nat.le_refl _)
 refine⟨h.id,fun s hs he n=>?_,fun s hs he n=>?_,fun s hs he v=>?_,h.no⟩
 ·rcases List.mem_cons.1 hs with rfl|hs
  ·exact⟨fun e=>absurd e (hn.1 n),fun e=>by cases e⟩
  ·exact h.nm s hs he n
 ·rcases List.mem_cons.1 hs with rfl|hs
  ·exact⟨fun e=>absurd e (hn.1 n),fun e=>by cases e⟩
  ·exact h.ch s hs he n
 ·rcases List.mem_cons.1 hs with rfl|hs
  ·exact⟨fun e=>absurd e (hn.2 v),fun e=>by cases e⟩
  ·exact h.vl s hs he v
theorem keys_part {l:List Tk} {x:Sc} {r:List Sc} {i:Nat} {ids:List Int} {H1:Int->Prop} {H2:Nat->ByteArray->Prop} {H3:Nat->Int->Prop} {t:Tk} (h:Keys l (x::r) i ids H1 H2 H3) (ht:l[i]?=some t) (hx:x.tk.op=0\/x.tk.op=4) (hlt:x.at_<i) (hr:∀ a∈r,a.at_<x.at_) :
  Keys l (metX x i t::r) i (ids++[t.id]) (fun d=>d=t.id\/H1 d) (fun k n=>(k=x.at_/\n=t.name)\/H2 k n) H3:=by
 refine⟨fun d=>?_,fun s hs he n=>?_,fun s hs he n=>?_,fun s hs he v=>?_,fun k hk=>?_⟩
 ·rw[h.id]
  simp[or_comm]
 ·rcases List.mem_cons.1 hs with rfl|hs
  ·show (x.at_=x.at_/\n=t.name)\/H2 x.at_ n↔nameIn l (x.kids++[i]) n=true
   rw[nameIn_snoc ht,h.nm x (List.mem_cons_self ..) hx n]
   exact or_congr ⟨fun e=>e.2.symm,fun e=>⟨rfl,e.symm⟩⟩ Iff.rfl
  ·have:=hr s hs
   rw[<- h.nm s (List.mem_cons_of_mem _ hs) he n]
   exact⟨fun e=>e.elim (fun e=>absurd e.1 (by omega)) id,.inr⟩
 ·rcases List.mem_cons.1 hs with rfl|hs
  ·have he:x.tk.op=10\/x.tk.op=12:=he
   omega
  ·have:=hr s hs
   rw[<- h.ch s (List.mem_cons_of_mem _ hs) he n]
   exact⟨fun e=>e.elim (fun e=>absurd e.1 (by omega)) id,.inr⟩
 ·rcases List.mem_cons.1 hs with rfl|hs
  ·have he:x.tk.op=10\/x.tk.op=12:=he
   omega
  ·exact h.vl s (List.mem_cons_of_mem _ hs) he v
 ·have:=h.no k hk
  exact⟨fun n e=>e.elim (fun e=>absurd e.1 (by omega)) (this.1 n),this.2⟩
theorem keys_typ {l:List Tk} {x:Sc} {r:List Sc} {i:Nat} {ids:List Int} {H1:Int->Prop} {H2:Nat->ByteArray->Prop} {H3:Nat->Int->Prop} {t:Tk} (h:Keys l (x::r) i ids H1 H2 H3) (hx:x.tk.op=2\/x.tk.op=8\/((x.tk.op=10\/x.tk.op=12)/\x.kids=[])) :
  Keys l (metX x i t::r) i ids H1 H2 H3:=by
 refine⟨h.id,fun s hs he n=>?_,fun s hs he n=>?_,fun s hs he v=>?_,fun k hk=>h.no k hk⟩
 ·rcases List.mem_cons.1 hs with rfl|hs
  ·have he:x.tk.op=0\/x.tk.op=4:=he
   omega
  ·exact h.nm s (List.mem_cons_of_mem _ hs) he n
 ·rcases List.mem_cons.1 hs with rfl|hs
  ·have he:x.tk.op=10\/x.tk.op=12:=he
   have hk:x.kids=[]:=by
    rcases hx with e|e|e
    ·omega
    ·omega
    ·exact e.2
   have h0:=h.ch x (List.mem_cons_self ..) he n
   rw[hk] at h0
   show H2 x.at_ n↔nameIn l (x.kids++[i]).tail n=true
   rw[hk]
   exact h0
  ·exact h.ch s (List.mem_cons_of_mem _ hs) he n
 ·rcases List.mem_cons.1 hs with rfl|hs
  ·have he:x.tk.op=10\/x.tk.op=12:=he
   have hk:x.kids=[]:=by
    rcases hx with e|e|e
    ·omega
    ·omega
    ·exact e.2
   have h0:=h.vl x (List.mem_cons_self ..) he v
   rw[hk] at h0
   show H3 x.at_ v↔valIn l (x.kids++[i]).tail v=true
   rw[hk]
   exact h0
  ·exact h.vl s (List.mem_cons_of_mem _ hs) he v
theorem tail_snoc {α:Type} {l:List α} (h:l≠[]) (a:α):(l++[a]).tail=l.tail++[a]:=by
 cases l with
 | nil=>exact absurd rfl h
 | cons b r=>rfl
theorem keys_cho {l:List Tk} {x:Sc} {r:List Sc} {i:Nat} {ids:List Int} {H1:Int->Prop} {H2:Nat->ByteArray->Prop} {H3:Nat->Int->Prop} {t:Tk} (h:Keys l (x::r) i ids H1 H2 H3) (ht:l[i]?=some t) (hx:x.tk.op=10\/x.tk.op=12) (hk:x.kids≠[]) (hlt:x.at_<i) (hr:∀ a∈r,a.at_<x.at_) :
  Keys l (metX x i t::r) i ids H1 (fun k n=>(k=x.at_/\n=t.name)\/H2 k n) (fun k v=>(k=x.at_/\v=t.val)\/H3 k v):=by
 refine⟨h.id,fun s hs he n=>?_,fun s hs he n=>?_,fun s hs he v=>?_,fun k hk=>?_⟩
 ·rcases List.mem_cons.1 hs with rfl|hs
  ·have he:x.tk.op=0\/x.tk.op=4:=he
   omega
  ·have:=hr s hs
   rw[<- h.nm s (List.mem_cons_of_mem _ hs) he n]
   exact⟨fun e=>e.elim (fun e=>absurd e.1 (by omega)) id,.inr⟩
 ·rcases List.mem_cons.1 hs with rfl|hs
  ·show (x.at_=x.at_/\n=t.name)\/H2 x.at_ n↔nameIn l (x.kids++[i]).tail n=true
   rw[tail_snoc hk,nameIn_snoc ht,h.ch x (List.mem_cons_self ..) hx n]
   exact or_congr ⟨fun e=>e.2.symm,fun e=>⟨rfl,e.symm⟩⟩ Iff.rfl
  ·have:=hr s hs
   rw[<- h.ch s (List.mem_cons_of_mem _ hs) he n]
   exact⟨fun e=>e.elim (fun e=>absurd e.1 (by omega)) id,.inr⟩
 ·rcases List.mem_cons.1 hs with rfl|hs
  ·show (x.at_=x.at_/\v=t.val)\/H3 x.at_ v↔valIn l (x.kids++[i]).tail v=true
   rw[tail_snoc hk,valIn_snoc ht,h.vl x (List.mem_cons_self ..) hx v]
   exact or_congr ⟨fun e=>e.2.symm,fun e=>⟨rfl,e.symm⟩⟩ Iff.rfl
  ·have:=hr s hs
   rw[<- h.vl s (List.mem_cons_of_mem _ hs) he v]
   exact⟨fun e=>e.elim (fun e=>absurd e.1 (by omega)) id,.inr⟩
 ·have:=h.no k hk
  exact⟨fun n e=>e.elim (fun e=>absurd e.1 (by omega)) (this.1 n),fun v e=>e.elim (fun e=>absurd e.1 (by omega)) (this.2 v)⟩
def depOk (o:List Sc) (dep:Nat->Int):Prop:=∀ q:Nat,q<16->dep q=(depB (q:Int) o:Int)
theorem dep_beg {o:List Sc} {dep:Nat->Int} {i:Nat} {t:Tk} {q:Nat} (h:depOk o dep) (hq:t.op=q):depOk (scNew i t::o) (fun k=>if k=q then dep k+1 else dep k):=fun k hk=>by
 have h0:=h k hk
 unfold depB at h0 ⊢
 rw[List.filter_cons]
 show (if k=q then dep k+1 else dep k)=_
 by_cases e:k=q
 ·subst e
  rw[if_pos rfl,if_pos (by show decide (t.op=_)=true;simp[hq]),List.length_cons,h0]
  omega
 ·rw[if_neg e,if_neg (by show ¬ decide (t.op=_)=true;simp[hq];omega),h0]
theorem dep_met {o:List Sc} {x:Sc} {dep:Nat->Int} {i:Nat} {t:Tk} (h:depOk (x::o) dep):depOk (metX x i t::o) dep:=fun k hk=>by
 have h0:=h k hk
 unfold depB at h0 ⊢
 rw[List.filter_cons] at h0 ⊢
 have e:(metX x i t).tk=x.tk:=rfl
 rw[e]
 rw[h0]
 split<;>rfl
theorem dep_end {o:List Sc} {x:Sc} {dep:Nat->Int} {q:Nat} (h:depOk (x::o) dep) (hq:x.tk.op=q):depOk o (fun k=>if k=q then dep k-1 else dep k):=fun k hk=>by
 have h0:=h k hk
 unfold depB at h0 ⊢
 rw[List.filter_cons] at h0
 show (if k=q then dep k-1 else dep k)=_
 by_cases e:k=q
 ·subst e
  rw[if_pos (by simp[hq]),List.length_cons] at h0
  rw[if_pos rfl,h0]
  omega
 ·rw[if_neg (by simp[hq];omega)] at h0
  rw[if_neg e,h0]
open Go.ChangeShapes Go.WideShapes Go.ChangeAt Go.RowKit Go.Shelf Go.Maps
theorem ent_isMessage:∀ ag w,(callFunc 77 ag).run Tryz.prog w = .ok (.enter 77 ag) w:=enters_of Tryz.func77 (by kernel_rfl) rfl
theorem ent_isEndedBy:∀ ag w,(callFunc 124 ag).run Tryz.prog w = .ok (.enter 124 ag) w:=enters_of Tryz.func124 (by kernel_rfl) rfl
theorem ent_endOf:∀ ag w,(callFunc 118 ag).run Tryz.prog w = .ok (.enter 118 ag) w:=enters_of Tryz.func118 (by kernel_rfl) rfl
theorem bcall {w:World} {f:FuncId} {ag:Array Value} {v:Value} (h:∀ W,Kb [] w W->Calls Tryz.prog f ag W fun e w'=>e = .returned v/\Below W.heap.size W w'):∀ W,Kb [] w W->Calls Tryz.prog f ag W fun e w'=>e = .returned v/\Kb [] w w' :=
 fun W hW=>(h W hW).mono fun _ _ ⟨h1,h2⟩=>⟨h1,hW.trans (Kb.of_below h2)⟩
theorem isMessage_any (B gf g o m1 m2 m3:Nat) (op rl:Value) (i:Int) (dep:Nat->Int) (wh:Bool) (f:Fm) (pp:Option Addr) (cp:Nat) (t:Tk) (pc:Option Addr) (cc:Nat) (w:World) (hC:CkC w B gf op i rl m1 m2 m3 dep wh) (hF:FmC w gf 0 f pp cp) (hgf:gf<w.heap.size) (hT:TkC w g o t pc cc) (hg:g<w.heap.size) (hk:KT w) :
  Calls Tryz.prog 77 #[.pointer (some ⟨B,0,none⟩),.pointer (some ⟨g,o,none⟩)] w fun r w'=>r = .returned (.bool (msgB f t))/\Below w.heap.size w w':=by
 obtain⟨p,pB,pK,hN,t2,t5,t15,k1,m2,m4,m5,m6,m7,c1,c2,c3,c4,c5⟩:∃ p:World->Prop,(∀ W,p W->Kb [] w W) /\
   (∀ W,Kb [] w W->p W) /\
   Nonempty (CW p) /\
   (∀ θ:CW p,θ.w.cell? ⟨g,o+2,none⟩=some (.int .i64 t.id)) /\
   (∀ θ:CW p,θ.w.cell? ⟨g,o+5,none⟩=some (.int .i64 t.since)) /\
   (∀ θ:CW p,θ.w.cell? ⟨g,o+15,none⟩=some (.int .i64 t.full)) /\
   (∀ θ:CW p,θ.w.cell? ⟨B,1,none⟩=some (.pointer (some ⟨gf,0,none⟩))) /\
   (∀ θ:CW p,θ.w.cell? ⟨gf,2,none⟩=some (.int .i64 f.ver)) /\
   (∀ θ:CW p,θ.w.cell? ⟨gf,4,none⟩=some (.int .i64 f.hb.p)) /\
   (∀ θ:CW p,θ.w.cell? ⟨gf,5,none⟩=some (.int .i64 f.hb.o)) /\
   (∀ θ:CW p,θ.w.cell? ⟨gf,6,none⟩=some (.int .i64 f.ht.p)) /\
   (∀ θ:CW p,θ.w.cell? ⟨gf,7,none⟩=some (.int .i64 f.ht.o)) /\
   (∀ W,p W->Calls Tryz.prog 74 #[.int .i64 t.id,.int .i64 0,.int .i64 65535] W fun e w'=>e = .returned (.bool (bet t.id 0 65535))/\p w') /\
   (∀ W,p W->Calls Tryz.prog 74 #[.int .i64 t.since,.int .i64 0,.int .i64 f.ver] W fun e w'=>e = .returned (.bool (bet t.since 0 f.ver))/\p w') /\
   (∀ W,p W->Calls Tryz.prog 108 #[.pointer (some ⟨g,o,none⟩)] W fun e w'=>e = .returned (.bool (blkB t))/\p w') /\
   (0<=t.full/\t.full<=65535->∀ W,p W->Calls Tryz.prog 76 #[spV f.hb,.int .i64 t.full] W fun e w'=>e = .returned (.bool (telB f.hb t.full))/\p w') /\
   (0<=t.id/\t.id<=65535->∀ W,p W->Calls Tryz.prog 76 #[spV f.ht,.int .i64 t.id] W fun e w'=>e = .returned (.bool (telB f.ht t.id))/\p w') :=
  ⟨Kb [] w,
   fun _ h=>h,
   fun _ h=>h,
   ⟨⟨_,Kb.refl _ _⟩⟩,
   fun θ=>(θ.h.cell hg List.not_mem_nil).trans hT.c2,
   fun θ=>(θ.h.cell hg List.not_mem_nil).trans hT.c5,
   fun θ=>(θ.h.cell hg List.not_mem_nil).trans hT.c15,
   fun θ=>(θ.h.cell hC.lt List.not_mem_nil).trans hC.c1,
   fun θ=>(θ.h.cell hgf List.not_mem_nil).trans (by simpa using hF.c2),
   fun θ=>(θ.h.cell hgf List.not_mem_nil).trans (by simpa using hF.c4),
   fun θ=>(θ.h.cell hgf List.not_mem_nil).trans (by simpa using hF.c5),
   fun θ=>(θ.h.cell hgf List.not_mem_nil).trans (by simpa using hF.c6),
   fun θ=>(θ.h.cell hgf List.not_mem_nil).trans (by simpa using hF.c7),
   callS (isBetween_any _ _ _),
   callS (isBetween_any _ _ _),
   bcall (fun W hW=>isBlock_any t g o pc cc W (Nat.lt_of_lt_of_le hg hW.size) (hT.same (hW.block g hg List.not_mem_nil))),
   fun hz=>bcall (fun W hW=>canTell_any f.hb t.full W (hk.up (Kb0 hW)) (by omega)),
   fun hz=>bcall (fun W hW=>canTell_any f.ht t.id W (hk.up (Kb0 hW)) (by omega))⟩
 have hfl:blkB t=true->0<=t.full/\t.full<=65535:=fun e=>by
  unfold blkB at e
  rw[Bool.and_eq_true] at e
  have:=betT e.1
  have:=decT e.2
  omega
 have hzz:bet t.id 0 65535=true->0<=t.id/\t.id<=65535:=betT
 clear hC hF hT hk hg hgf
 unfold msgB
 obtain⟨q1,hq1⟩:∃ q,bet t.id 0 65535=q:=⟨_,rfl⟩
 obtain⟨q2,hq2⟩:∃ q,bet t.since 0 f.ver=q:=⟨_,rfl⟩
 obtain⟨q3,hq3⟩:∃ q,blkB t=q:=⟨_,rfl⟩
 obtain⟨q4,hq4⟩:∃ q,telB f.hb t.full=q:=⟨_,rfl⟩
 obtain⟨q5,hq5⟩:∃ q,telB f.ht t.id=q:=⟨_,rfl⟩
 rw[hq1] at c1 hzz ⊢
 rw[hq2] at c2 ⊢
 rw[hq3] at c3 hfl ⊢
 rw[hq4] at c4 ⊢
 rw[hq5] at c5 ⊢
 clear hq1 hq2 hq3 hq4 hq5
 rcases ch5 q1 q2 q3 q4 q5 with e1|⟨e1,e2⟩|⟨e1,e2,e3⟩|⟨e1,e2,e3,e4⟩|⟨e1,e2,e3,e4,e5⟩|⟨e1,e2,e3,e4,e5⟩
 ·subst e1
  go_enter Tryz.func77,Tryz.ntmps77
  go_wp2_with fail
  refine wp_region_lp p (by kernel_rfl) (by kernel_rfl) (fun _ _ d _ _ h=>by cases d<;>exact h) (pK _ (Kb.refl _ _).drew) fun W hp=>?_
  repeat (first|(refine lx_one rfl ?_;(first|go_big_quiet_skip|(go_big_quiet_want;go_big_quiet_op;go_big_quiet_on));refine wpQuiet_nil ?_)|(refine lx_p3 ent_isBetween c1 hp rfl rfl rfl (by rfl) ?_;intro W hp;simp only[pts])|(refine lx_skip (by rfl) ?_;simp only[pts]))
  refine lx_done ?_
  go_wp2_with fail
  go_ret
  exact⟨rfl,Kb0 (pB _ hp)⟩
 ·subst e1 e2
  go_enter Tryz.func77,Tryz.ntmps77
  go_wp2_with fail
  refine wp_region_lp p (by kernel_rfl) (by kernel_rfl) (fun _ _ d _ _ h=>by cases d<;>exact h) (pK _ (Kb.refl _ _).drew) fun W hp=>?_
  repeat (first|(refine lx_one rfl ?_;(first|go_big_quiet_skip|(go_big_quiet_want;go_big_quiet_op;go_big_quiet_on));refine wpQuiet_nil ?_)|(refine lx_p3 ent_isBetween c1 hp rfl rfl rfl (by rfl) ?_;intro W hp;simp only[pts])|(refine lx_p3 ent_isBetween c2 hp rfl rfl rfl (by rfl) ?_;intro W hp;simp only[pts])|(refine lx_skip (by rfl) ?_;simp only[pts]))
  refine lx_done ?_
  go_wp2_with fail
  go_ret
  exact⟨rfl,Kb0 (pB _ hp)⟩
 ·subst e1 e2 e3
  go_enter Tryz.func77,Tryz.ntmps77
  go_wp2_with fail
  refine wp_region_lp p (by kernel_rfl) (by kernel_rfl) (fun _ _ d _ _ h=>by cases d<;>exact h) (pK _ (Kb.refl _ _).drew) fun W hp=>?_
  repeat (first|(refine lx_one rfl ?_;(first|go_big_quiet_skip|(go_big_quiet_want;go_big_quiet_op;go_big_quiet_on));refine wpQuiet_nil ?_)|(refine lx_p3 ent_isBetween c1 hp rfl rfl rfl (by rfl) ?_;intro W hp;simp only[pts])|(refine lx_p3 ent_isBetween c2 hp rfl rfl rfl (by rfl) ?_;intro W hp;simp only[pts])|(refine lx_p1 ent_isBlock c3 hp rfl (by rfl) ?_;intro W hp;simp only[pts])|(refine lx_skip (by rfl) ?_;simp only[pts]))
  refine lx_done ?_
  go_wp2_with fail
  go_ret
  exact⟨rfl,Kb0 (pB _ hp)⟩
 ·subst e1 e2 e3 e4
  replace c4:=c4 (hfl rfl)
  go_enter Tryz.func77,Tryz.ntmps77
  go_wp2_with fail
  refine wp_region_lp p (by kernel_rfl) (by kernel_rfl) (fun _ _ d _ _ h=>by cases d<;>exact h) (pK _ (Kb.refl _ _).drew) fun W hp=>?_
  repeat (first|(refine lx_one rfl ?_;(first|go_big_quiet_skip|(go_big_quiet_want;go_big_quiet_op;go_big_quiet_on));refine wpQuiet_nil ?_)|(refine lx_p3 ent_isBetween c1 hp rfl rfl rfl (by rfl) ?_;intro W hp;simp only[pts])|(refine lx_p3 ent_isBetween c2 hp rfl rfl rfl (by rfl) ?_;intro W hp;simp only[pts])|(refine lx_p1 ent_isBlock c3 hp rfl (by rfl) ?_;intro W hp;simp only[pts])|(refine lx_p2 ent_canTell c4 hp rfl rfl (by rfl) ?_;intro W hp;simp only[pts])|(refine lx_skip (by rfl) ?_;simp only[pts]))
  refine lx_done ?_
  go_wp2_with fail
  go_ret
  exact⟨rfl,Kb0 (pB _ hp)⟩
 ·subst e1 e2 e3 e4 e5
  replace c4:=c4 (hfl rfl)
  replace c5:=c5 (hzz rfl)
  go_enter Tryz.func77,Tryz.ntmps77
  go_wp2_with fail
  refine wp_region_lp p (by kernel_rfl) (by kernel_rfl) (fun _ _ d _ _ h=>by cases d<;>exact h) (pK _ (Kb.refl _ _).drew) fun W hp=>?_
  repeat (first|(refine lx_one rfl ?_;(first|go_big_quiet_skip|(go_big_quiet_want;go_big_quiet_op;go_big_quiet_on));refine wpQuiet_nil ?_)|(refine lx_p3 ent_isBetween c1 hp rfl rfl rfl (by rfl) ?_;intro W hp;simp only[pts])|(refine lx_p3 ent_isBetween c2 hp rfl rfl rfl (by rfl) ?_;intro W hp;simp only[pts])|(refine lx_p1 ent_isBlock c3 hp rfl (by rfl) ?_;intro W hp;simp only[pts])|(refine lx_p2 ent_canTell c4 hp rfl rfl (by rfl) ?_;intro W hp;simp only[pts])|(refine lx_p2 ent_canTell c5 hp rfl rfl (by rfl) ?_;intro W hp;simp only[pts])|(refine lx_skip (by rfl) ?_;simp only[pts]))
  refine lx_done ?_
  go_wp2_with fail
  go_ret
  exact⟨rfl,Kb0 (pB _ hp)⟩
 ·subst e1 e2 e3 e4 e5
  replace c4:=c4 (hfl rfl)
  replace c5:=c5 (hzz rfl)
  go_enter Tryz.func77,Tryz.ntmps77
  go_wp2_with fail
  refine wp_region_lp p (by kernel_rfl) (by kernel_rfl) (fun _ _ d _ _ h=>by cases d<;>exact h) (pK _ (Kb.refl _ _).drew) fun W hp=>?_
  repeat (first|(refine lx_one rfl ?_;(first|go_big_quiet_skip|(go_big_quiet_want;go_big_quiet_op;go_big_quiet_on));refine wpQuiet_nil ?_)|(refine lx_p3 ent_isBetween c1 hp rfl rfl rfl (by rfl) ?_;intro W hp;simp only[pts])|(refine lx_p3 ent_isBetween c2 hp rfl rfl rfl (by rfl) ?_;intro W hp;simp only[pts])|(refine lx_p1 ent_isBlock c3 hp rfl (by rfl) ?_;intro W hp;simp only[pts])|(refine lx_p2 ent_canTell c4 hp rfl rfl (by rfl) ?_;intro W hp;simp only[pts])|(refine lx_p2 ent_canTell c5 hp rfl rfl (by rfl) ?_;intro W hp;simp only[pts])|(refine lx_skip (by rfl) ?_;simp only[pts]))
  refine lx_done ?_
  go_wp2_with fail
  go_ret
  exact⟨rfl,Kb0 (pB _ hp)⟩
def endT (t u:Tk) (i:Int):Bool:=(u.op==t.op+1)&&decide (u.name=t.name)&&(u.pair==i)
theorem beq_ba {a b:ByteArray} (h:a≠b):(a.toList==b.toList)=false :=
 beq_eq_false_iff_ne.2 fun e=>h (by
  rw[ByteArray.toList_eq,ByteArray.toList_eq] at e
  exact ByteArray.ext (Array.toList_inj.1 e))
theorem ba_dec (a b:ByteArray):(a.toList==b.toList)=decide (a=b):=by
 by_cases h:a=b
 ·subst h;simp
 ·rw[beq_ba h,decide_eq_false h]
theorem isEndedBy_any (B gf g o o2 m1 m2 m3:Nat) (op rl:Value) (i:Int) (dep:Nat->Int) (wh:Bool) (t u:Tk) (pc pu:Option Addr) (cc cu:Nat) (w:World) (hC:CkC w B gf op i rl m1 m2 m3 dep wh) (hT:TkC w g o t pc cc) (hU:TkC w g o2 u pu cu) (hg:g<w.heap.size) (ho:-100<=t.op/\t.op<=100) :
  Calls Tryz.prog 124 #[.pointer (some ⟨B,0,none⟩),.pointer (some ⟨g,o,none⟩),.pointer (some ⟨g,o2,none⟩)] w fun r w'=>r = .returned (.bool (endT t u i))/\Below w.heap.size w w':=by
 obtain⟨p,pB,pK,hN,t0,t1,u0,u1,u20,k2,c1⟩:∃ p:World->Prop,(∀ W,p W->Kb [] w W) /\
   (∀ W,Kb [] w W->p W) /\
   Nonempty (CW p) /\
   (∀ θ:CW p,θ.w.cell? ⟨g,o,none⟩=some (.int .i64 t.op)) /\
   (∀ θ:CW p,θ.w.cell? ⟨g,o+1,none⟩=some (.string t.name)) /\
   (∀ θ:CW p,θ.w.cell? ⟨g,o2,none⟩=some (.int .i64 u.op)) /\
   (∀ θ:CW p,θ.w.cell? ⟨g,o2+1,none⟩=some (.string u.name)) /\
   (∀ θ:CW p,θ.w.cell? ⟨g,o2+20,none⟩=some (.int .i64 u.pair)) /\
   (∀ θ:CW p,θ.w.cell? ⟨B,2,none⟩=some (.int .i64 i)) /\
   (∀ W,p W->Calls Tryz.prog 118 #[.int .i64 t.op] W fun e w'=>e = .returned (.int .i64 (t.op+1))/\p w') :=
  ⟨Kb [] w,
   fun _ h=>h,
   fun _ h=>h,
   ⟨⟨_,Kb.refl _ _⟩⟩,
   fun θ=>(θ.h.cell hg List.not_mem_nil).trans hT.c0,
   fun θ=>(θ.h.cell hg List.not_mem_nil).trans hT.c1,
   fun θ=>(θ.h.cell hg List.not_mem_nil).trans hU.c0,
   fun θ=>(θ.h.cell hg List.not_mem_nil).trans hU.c1,
   fun θ=>(θ.h.cell hg List.not_mem_nil).trans hU.c20,
   fun θ=>(θ.h.cell hC.lt List.not_mem_nil).trans hC.c2,
   callS (fun W=>endOf_any t.op W ho)⟩
 clear hC hT hU hg ho
 unfold endT
 rw[<- ba_dec]
 rcases ch2 (u.op==t.op+1) (u.name.toList==t.name.toList) with e1|⟨e1,e2⟩|⟨e1,e2⟩
 all_goals
  go_enter Tryz.func124,Tryz.ntmps124
  go_wp2_with fail
  refine wp_region_lp p (by kernel_rfl) (by kernel_rfl) (fun _ _ d _ _ h=>by cases d<;>exact h) (pK _ (Kb.refl _ _).drew) fun W hp=>?_
  repeat (first|(refine lx_one rfl ?_;(first|go_big_quiet_skip|(go_big_quiet_want;go_big_quiet_op;go_big_quiet_on));refine wpQuiet_nil ?_)|(refine lx_p1 ent_endOf c1 hp rfl (by rfl) ?_;intro W hp;simp only[pts])|(refine lx_skip (by rfl) ?_;simp only[pts]))
  refine lx_done ?_
  go_wp2_with fail
  go_ret
  exact⟨rb (by simp[*]),Kb0 (pB _ hp)⟩
theorem ent_isPaired:∀ ag w,(callFunc 88 ag).run Tryz.prog w = .ok (.enter 88 ag) w:=enters_of Tryz.func88 (by kernel_rfl) rfl
theorem isPaired_beg (B gf g o i H m1 m2 m3 cp:Nat) (op rl:Value) (dep:Nat->Int) (wh:Bool) (f:Fm) (t:Tk) (w:World) (hC:CkC w B gf op (i:Int) rl m1 m2 m3 dep wh) (hF:FmC w gf 0 f (some ⟨g,o,none⟩) cp) (hgf:gf<w.heap.size) (hL:TkL w (some ⟨g,o,none⟩) H f.toks) (hH:H<=w.heap.size) (ht:f.toks[i]?=some t) (hb:bgO t.op=true) :
  Calls Tryz.prog 88 #[.pointer (some ⟨B,0,none⟩),.pointer (some ⟨g,o+i*21,none⟩)] w fun r w'=>r = .returned (.bool (pairB f.toks i t))/\Below w.heap.size w w':=by
 obtain⟨_,_,pc,cc,e,hgH,hT,_,_,kT⟩:=hL.at ht
 cases e
 have hg:g<w.heap.size:=Nat.lt_of_lt_of_le hgH hH
 have hlen:=hL.len
 have hil:=(List.getElem?_eq_some_iff.1 ht).1
 have ho:0<=t.op/\t.op<=15:=by
  have hb:=hb
  unfold bgO at hb
  have:=decT hb
  omega
 have cG:=fun W=>begins_any t.op W ho
 rw[hb] at cG
 have t0:=hT.c0
 have e1:IntKind.i64.wrap ((i:Int)+1)=(i:Int)+1:=by rw[IntKind.wrap_i64];omega
 have e2:IntKind.i64.wrap ((f.toks.length:Int)-1)=(f.toks.length:Int)-1:=by rw[IntKind.wrap_i64];omega
 by_cases q:(i:Int)<t.pair/\t.pair<f.toks.length
 ·obtain⟨n,hn⟩:∃ n:Nat,t.pair=n:=⟨t.pair.toNat,by omega⟩
  obtain⟨u,hu⟩:∃ u,f.toks[n]?=some u:=⟨f.toks[n]'(by omega),List.getElem?_eq_getElem (by omega)⟩
  obtain⟨_,_,pu,cu,e,_,hU,_⟩:=hL.at hu
  cases e
  have hbt:bet (n:Int) ((i:Int)+1) ((f.toks.length:Int)-1)=true:=decide_eq_true (by omega)
  have hres:pairB f.toks i t=endT t u i:=by
   unfold pairB endT
   rw[decide_eq_true q,hn,Int.toNat_natCast,hu]
   simp only[Bool.true_and,beqD]
  rw[hres]
  have t20v:w.cell? ⟨g,o+i*21+20,none⟩=some (.int .i64 (n:Int)):=by rw[hT.c20,hn]
  have hni:(n:Int)<(f.toks.length:Int):=by omega
  obtain⟨p,pB,pK,hN,t20,k1,k2,m12,c1,c2⟩:∃ p:World->Prop,(∀ W,p W->Kb [] w W) /\
   (∀ W,Kb [] w W->p W) /\
   Nonempty (CW p) /\
   (∀ θ:CW p,θ.w.cell? ⟨g,o+i*21+20,none⟩=some (.int .i64 (n:Int))) /\
   (∀ θ:CW p,θ.w.cell? ⟨B,1,none⟩=some (.pointer (some ⟨gf,0,none⟩))) /\
   (∀ θ:CW p,θ.w.cell? ⟨B,2,none⟩=some (.int .i64 (i:Int))) /\
   (∀ θ:CW p,θ.w.cell? ⟨gf,12,none⟩=some (.slice (some ⟨g,o,none⟩) f.toks.length cp)) /\
   (∀ W,p W->Calls Tryz.prog 74 #[.int .i64 (n:Int),.int .i64 ((i:Int)+1),.int .i64 ((f.toks.length:Int)-1)] W fun e w'=>e = .returned (.bool true)/\p w') /\
   (∀ W,p W->Calls Tryz.prog 124 #[.pointer (some ⟨B,0,none⟩),.pointer (some ⟨g,o+i*21,none⟩),.pointer (some ⟨g,o+n*21,none⟩)] W fun e w'=>e = .returned (.bool (endT t u i))/\p w') :=
   ⟨Kb [] w,
   fun _ h=>h,
   fun _ h=>h,
   ⟨⟨_,Kb.refl _ _⟩⟩,
   fun θ=>(θ.h.cell hg List.not_mem_nil).trans t20v,
   fun θ=>(θ.h.cell hC.lt List.not_mem_nil).trans hC.c1,
   fun θ=>(θ.h.cell hC.lt List.not_mem_nil).trans hC.c2,
   fun θ=>(θ.h.cell hgf List.not_mem_nil).trans (by simpa using hF.c12),
   callS (fun W=>hbt▸isBetween_any _ _ _ W),
   bcall (fun W hW=>isEndedBy_any B gf g (o+i*21) (o+n*21) m1 m2 m3 op rl i dep wh t u pc pu cc cu W (hC.same hW.size (hW.block _ hC.lt List.not_mem_nil)) (hT.same (hW.block _ hg List.not_mem_nil)) (hU.same (hW.block _ hg List.not_mem_nil)) (Nat.lt_of_lt_of_le hg hW.size) (by omega))⟩
  clear hC hF hL hT hU hgf hH ht hb hu hbt hres t20v hn q ho hgH hil hlen kT
  go_enter Tryz.func88,Tryz.ntmps88
  go_wp2_with (go_at_call 93;refine(cG _).mono ?_;rintro _ w' ⟨rfl,hw'⟩;obtain rfl:w=w':=hw'.symm)
  refine wp_region_lp p (by kernel_rfl) (by kernel_rfl) (fun _ _ d _ _ h=>by cases d<;>exact h) (pK _ (Kb.refl _ _).drew) fun W hp=>?_
  repeat (first|(refine lx_one rfl ?_;(first|go_big_quiet_skip|(go_big_quiet_want;go_big_quiet_op;go_big_quiet_on));refine wpQuiet_nil ?_)|(refine lx_p3 ent_isBetween c1 hp rfl rfl rfl (by rfl) ?_;intro W hp;simp only[pts])|(refine lx_p3 ent_isEndedBy c2 hp rfl rfl rfl (by rfl) ?_;intro W hp;simp only[pts])|(refine lx_skip (by rfl) ?_;simp only[pts]))
  refine lx_done ?_
  go_wp2_with fail
  go_ret
  exact⟨rfl,Kb0 (pB _ hp)⟩
 ·have hbt:bet t.pair ((i:Int)+1) ((f.toks.length:Int)-1)=false:=decide_eq_false (by omega)
  have hres:pairB f.toks i t=false:=by
   unfold pairB
   rw[decide_eq_false q,Bool.false_and]
  rw[hres]
  obtain⟨p,pB,pK,hN,t20,k1,k2,m12,c1⟩:∃ p:World->Prop,(∀ W,p W->Kb [] w W) /\
   (∀ W,Kb [] w W->p W) /\
   Nonempty (CW p) /\
   (∀ θ:CW p,θ.w.cell? ⟨g,o+i*21+20,none⟩=some (.int .i64 t.pair)) /\
   (∀ θ:CW p,θ.w.cell? ⟨B,1,none⟩=some (.pointer (some ⟨gf,0,none⟩))) /\
   (∀ θ:CW p,θ.w.cell? ⟨B,2,none⟩=some (.int .i64 (i:Int))) /\
   (∀ θ:CW p,θ.w.cell? ⟨gf,12,none⟩=some (.slice (some ⟨g,o,none⟩) f.toks.length cp)) /\
   (∀ W,p W->Calls Tryz.prog 74 #[.int .i64 t.pair,.int .i64 ((i:Int)+1),.int .i64 ((f.toks.length:Int)-1)] W fun e w'=>e = .returned (.bool false)/\p w') :=
   ⟨Kb [] w,
   fun _ h=>h,
   fun _ h=>h,
   ⟨⟨_,Kb.refl _ _⟩⟩,
   fun θ=>(θ.h.cell hg List.not_mem_nil).trans hT.c20,
   fun θ=>(θ.h.cell hC.lt List.not_mem_nil).trans hC.c1,
   fun θ=>(θ.h.cell hC.lt List.not_mem_nil).trans hC.c2,
   fun θ=>(θ.h.cell hgf List.not_mem_nil).trans (by simpa using hF.c12),
   callS (fun W=>hbt▸isBetween_any _ _ _ W)⟩
  clear hC hF hL hT hgf hH ht hb hbt hres q ho hgH hil hlen kT
  go_enter Tryz.func88,Tryz.ntmps88
  go_wp2_with (go_at_call 93;refine(cG _).mono ?_;rintro _ w' ⟨rfl,hw'⟩;obtain rfl:w=w':=hw'.symm)
  refine wp_region_lp p (by kernel_rfl) (by kernel_rfl) (fun _ _ d _ _ h=>by cases d<;>exact h) (pK _ (Kb.refl _ _).drew) fun W hp=>?_
  repeat (first|(refine lx_one rfl ?_;(first|go_big_quiet_skip|(go_big_quiet_want;go_big_quiet_op;go_big_quiet_on));refine wpQuiet_nil ?_)|(refine lx_p3 ent_isBetween c1 hp rfl rfl rfl (by rfl) ?_;intro W hp;simp only[pts])|(refine lx_skip (by rfl) ?_;simp only[pts]))
  refine lx_done ?_
  go_wp2_with fail
  go_ret
  exact⟨rfl,Kb0 (pB _ hp)⟩
theorem isPaired_end (c:Cf) (f:Fm) (L:List Sv) (x:Sv) (xt t:Tk) (rl:Value) (dep:Nat->Int) (wh:Bool) (w:World) (h:Ct w c f L x xt t rl dep wh) (he:edO t.op=true) :
  Calls Tryz.prog 88 #[.pointer (some ⟨c.B,0,none⟩),.pointer (some ⟨c.g,c.o+c.i*21,none⟩)] w fun r w'=>r = .returned (.bool ((t.pair==(x.at_:Int))&&(xt.pair==(c.i:Int))))/\Below w.heap.size w w':=by
 have ho:0<=t.op/\t.op<=15/\bgO t.op=false:=by
  unfold edO at he
  have:=decT he
  exact⟨by omega,by omega,by unfold bgO;exact decide_eq_false (by omega)⟩
 have cG:=fun W=>begins_any t.op W ⟨ho.1,ho.2.1⟩
 have cE:=fun W=>ends_any t.op W ⟨ho.1,ho.2.1⟩
 rw[ho.2.2] at cG
 rw[he] at cE
 obtain⟨pc,cc,hT,hU,hcc,kT⟩:=h.tk
 obtain⟨px,cx,hX,kX⟩:=h.xk
 have hS:=h.sc
 have hC:=h.ck
 have hF:=h.fm
 have hlg:=h.lg
 have hlo:=h.op.lt
 have hlf:=h.fl
 have t0:=hT.c0
 obtain⟨p,pB,pK,hN,t20,x20,s0,s1,k2,cT⟩:∃ p:World->Prop,(∀ W,p W->Kb [] w W) /\
   (∀ W,Kb [] w W->p W) /\
   Nonempty (CW p) /\
   (∀ θ:CW p,θ.w.cell? ⟨c.g,c.o+c.i*21+20,none⟩=some (.int .i64 t.pair)) /\
   (∀ θ:CW p,θ.w.cell? ⟨c.g,c.o+x.at_*21+20,none⟩=some (.int .i64 xt.pair)) /\
   (∀ θ:CW p,θ.w.cell? ⟨c.go,L.length*8,none⟩=some (.pointer (some ⟨c.g,c.o+x.at_*21,none⟩))) /\
   (∀ θ:CW p,θ.w.cell? ⟨c.go,L.length*8+1,none⟩=some (.int .i64 (x.at_:Int))) /\
   (∀ θ:CW p,θ.w.cell? ⟨c.B,2,none⟩=some (.int .i64 (c.i:Int))) /\
   (∀ W,p W->Calls Tryz.prog 92 #[.pointer (some ⟨c.B,0,none⟩)] W fun e w'=>e = .returned (.pointer (some ⟨c.go,L.length*8,none⟩))/\p w') :=
  ⟨Kb [] w,
   fun _ h=>h,
   fun _ h=>h,
   ⟨⟨_,Kb.refl _ _⟩⟩,
   fun θ=>(θ.h.cell hlg List.not_mem_nil).trans hT.c20,
   fun θ=>(θ.h.cell hlg List.not_mem_nil).trans hX.c20,
   fun θ=>(θ.h.cell hlo List.not_mem_nil).trans hS.c0,
   fun θ=>(θ.h.cell hlo List.not_mem_nil).trans hS.c1,
   fun θ=>(θ.h.cell hC.lt List.not_mem_nil).trans hC.c2,
   bcall (fun W hW=>top_any c.B c.go L.length c.cap W (h.below (Kb0 hW)).ck.c0 h.ln)⟩
 clear hT hX hS hC hF hU hcc hlg hlo hlf kT kX h he ho
 rcases Bool.eq_false_or_eq_true (t.pair==(x.at_:Int)) with e1|e1
 all_goals
  go_enter Tryz.func88,Tryz.ntmps88
  go_wp2_with (first|(go_at_call 93;refine(cG _).mono ?_;rintro _ w' ⟨rfl,hw'⟩;obtain rfl:w=w':=hw'.symm)|(go_at_call 89;refine(cE _).mono ?_;rintro _ w' ⟨rfl,hw'⟩;obtain rfl:w=w':=hw'.symm))
  refine wp_region_pp p [0,1,2,3,4,5,6,7,8,9,10,11,12,13,14,15,23,24,25,26,16,17,18,19,20,21,22,27,28,29] (by kernel_rfl) (by kernel_rfl) (fun _ _ d _ _ h=>by cases d<;>exact h) (pK _ (Kb.refl _ _).drew) ?_
  simp only[List.filterMap_cons,List.filterMap_nil,List.getElem?_cons_zero,List.getElem?_cons_succ]
  have hp:p w.drew:=pK _ (Kb.refl _ _).drew
  generalize w.drew=W at hp ⊢
  repeat (first|(refine lx_one rfl ?_;(first|go_big_quiet_skip|(go_big_quiet_want;go_big_quiet_op;go_big_quiet_on));refine wpQuiet_nil ?_)|(refine lx_p1 ent_top cT hp rfl (by rfl) ?_;intro W hp;simp only[pts])|(refine lx_skip (by rfl) ?_;simp only[pts]))
  refine lx_done ?_
  go_wp2_with fail
  go_ret
  exact⟨rb (by simp[e1]),Kb0 (pB _ hp)⟩
theorem isPaired_own (c:Cf) (f:Fm) (L:List Sv) (x:Sv) (xt t:Tk) (rl:Value) (dep:Nat->Int) (wh:Bool) (w:World) (h:Ct w c f L x xt t rl dep wh) (he:t.op=14\/t.op=15) :
  Calls Tryz.prog 88 #[.pointer (some ⟨c.B,0,none⟩),.pointer (some ⟨c.g,c.o+c.i*21,none⟩)] w fun r w'=>r = .returned (.bool (t.pair==(c.i:Int)))/\Below w.heap.size w w':=by
 have ho:0<=t.op/\t.op<=15/\bgO t.op=false/\edO t.op=false:=⟨by omega,by omega,by unfold bgO;exact decide_eq_false (by omega),by unfold edO;exact decide_eq_false (by omega)⟩
 have cG:=fun W=>begins_any t.op W ⟨ho.1,ho.2.1⟩
 have cE:=fun W=>ends_any t.op W ⟨ho.1,ho.2.1⟩
 rw[ho.2.2.1] at cG
 rw[ho.2.2.2] at cE
 obtain⟨pc,cc,hT,hU,hcc,kT⟩:=h.tk
 obtain⟨px,cx,hX,kX⟩:=h.xk
 have hS:=h.sc
 have hC:=h.ck
 have hF:=h.fm
 have hlg:=h.lg
 have hlo:=h.op.lt
 have hlf:=h.fl
 have t0:=hT.c0
 have t20:=hT.c20
 have k2:=hC.c2
 clear hT hX hS hC hF hU hcc hlg hlo hlf kT kX h he ho
 go_enter Tryz.func88,Tryz.ntmps88
 go_wp2_with (first|(go_at_call 93;refine(cG _).mono ?_;rintro _ w' ⟨rfl,hw'⟩;obtain rfl:w=w':=hw'.symm)|(go_at_call 89;refine(cE _).mono ?_;rintro _ w' ⟨rfl,hw'⟩;obtain rfl:w=w':=hw'.symm))
 go_quiet (fail)
 go_wp2_with fail
 go_ret
 exact⟨rfl,tdr (Below.refl _ _)⟩
end Go.Proofs.YtjlbcdnkglaheaaGreatDoor

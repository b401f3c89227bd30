import Derived.Test.YtbhmciieiilcfaaGreatDoorK19
import Derived.Test.YtbhmciieiilcfaaGreatDoorK20
import Derived.Test.YtbhmciieiilcfaaGreatDoorK17
namespace Go.Proofs.YtbhmciieiilcfaaGreatDoor
set_option maxRecDepth 1000000
set_option maxHeartbeats 16000000
open Go.ChangeShapes Go.WideShapes Go.ChangeAt Go.RowKit Go.Shelf Go.Maps
variable {a b i:Nat} {l:List Tk} {o:List Sc}
section
variable {P:Program} {ops:Array Oper} {C:World->Prop} {Q:Exit->Act->World->Prop} {d:Option Tmp} {ty:TypeId} {ps:String} {af:Array Edge} {gd:Option (Nat×Bool)} {r:List Oper} {a:Act} {w:World}
theorem lx_callv {f:FuncId} {v0 x1:Operand} {y0 y1:Value} {tx:Array TypeId} {v:Value} {R:World->Prop} (hen:∀ ag w,(callFunc f ag).run P w = .ok (.enter f ag) w) (hc:Calls P f #[y0,y1] w fun e w'=>e = .returned v/\R w') (h0:a.eval v0 = .func (.func f) #[y0] #[]) (h1:a.eval x1=y1) (hw:Region.wanted ⟨d,.call { callee:=.value v0,args:=#[x1],argTypes:=tx },ty,ps,af,gd⟩ (yielded ops a.tmps)=true)
  (h:∀ w',R w'->C w'/\Lx P ops C Q r (a.put d v) w'):Lx P ops C Q (⟨d,.call { callee:=.value v0,args:=#[x1],argTypes:=tx },ty,ps,af,gd⟩::r) a w :=
 lx_act hw rfl fun K hK=>by
  unfold Oper.wp execOp
  simp only[resolve,invoke,Sem.run_bind,h0]
  simp[Deferred.ofValue,hen,Oper.upon_enter,h1]
  refine hc.mono ?_
  rintro e w' ⟨rfl,hp⟩
  exact hK _ _ (h w' hp).1 (h w' hp).2
end
theorem ent_mayStand:∀ ag w,(callFunc 93 ag).run Tryz.prog w = .ok (.enter 93 ag) w:=enters_of Tryz.func93 (by kernel_rfl) rfl
theorem ent_symbol:∀ ag w,(callFunc 95 ag).run Tryz.prog w = .ok (.enter 95 ag) w:=enters_of Tryz.func95 (by kernel_rfl) rfl
theorem ent_ends:∀ ag w,(callFunc 97 ag).run Tryz.prog w = .ok (.enter 97 ag) w:=enters_of Tryz.func97 (by kernel_rfl) rfl
theorem takes_rule (E:List Nat) (B g ot:Nat) (t:Tk) (pc:Option Addr) (cc:Nat) (w:World) (hT:TkC w g ot t pc cc) (hlg:g<w.heap.size) (kn:t.name.size<=281474976710656) (hB:B<w.heap.size) (ng:g∉E) (nB:B∉E) (q gr fr:Nat) (bm br:Bool) (bp:Bool) (RR:World->World->Prop) (hq:t.op=q) (hq2:q<16) (hne:edO t.op=false) (k3v:w.cell? ⟨B,3,none⟩=some (.slice (some ⟨gr,0,none⟩) 16 16)) (hgr:gr<w.heap.size) (hgn:gr∉E) (hrc:w.cell? ⟨gr,q,none⟩=some (.func (.func fr) #[.pointer (some ⟨B,0,none⟩)] #[])) (hen:∀ ag w,(callFunc fr ag).run Tryz.prog w = .ok (.enter fr ag) w) (hMT:MT w)
  (cMay:∀ W,Below w.heap.size w W->Calls Tryz.prog 93 #[.pointer (some ⟨B,0,none⟩),.int .i64 (q:Int)] W fun r w'=>r = .returned (.bool bm)/\Below W.heap.size W w')
  (cPair:∀ W,Below w.heap.size w W->Calls Tryz.prog 96 #[.pointer (some ⟨B,0,none⟩),.pointer (some ⟨g,ot,none⟩)] W fun r w'=>r = .returned (.bool bp)/\Below W.heap.size W w')
  (cRule:bm=true->plainB t=true->symbolB t.name=true->bp=true->∀ W,Below w.heap.size w W->Calls Tryz.prog fr #[.pointer (some ⟨B,0,none⟩),.pointer (some ⟨g,ot,none⟩)] W fun r w'=>r = .returned (.bool br)/\RR W w') (hRR:∀ W w',RR W w'->Kb E W w') :
  Calls Tryz.prog 72 #[.pointer (some ⟨B,0,none⟩),.pointer (some ⟨g,ot,none⟩)] w fun r w'=>r = .returned (.bool (bm&&plainB t&&symbolB t.name&&bp&&br))/\Lft E w w' (bm&&plainB t&&symbolB t.name&&bp&&br) (∃ W,Below w.heap.size w W/\RR W w'):=by
 have t0v:w.cell? ⟨g,ot,none⟩=some (.int .i64 (q:Int)):=by rw[hT.c0,hq]
 have cMore:∀ W,Below w.heap.size w W->Calls Tryz.prog 94 #[.pointer (some ⟨g,ot,none⟩)] W fun r w'=>r = .returned (.bool (!plainB t))/\Below W.heap.size W w':=fun W hW=>hasMore_any t _ _ pc cc W (hT.below hlg hW) (Nat.lt_of_lt_of_le hlg hW.size) (hMT.below hMT.pos hW) (by omega)
 have cSym:=Symbol_any t.name (by omega)
 have cEnd:=fun W=>ends_any t.op W (by omega)
 rw[hne,hq] at cEnd
 have hq0:(0:Int)<=(q:Int):=by omega
 have hq1:(q:Int)<16:=by omega
 obtain⟨p,pB,pK,hN,t0,t1,k3,r0⟩:∃ p:World->Prop,(∀ W,p W->Kb E w W) /\
   (∀ W,Kb E w W->p W) /\
   Nonempty (CW p) /\
   (∀ θ:CW p,θ.w.cell? ⟨g,ot,none⟩=some (.int .i64 (q:Int))) /\
   (∀ θ:CW p,θ.w.cell? ⟨g,ot+1,none⟩=some (.string t.name)) /\
   (∀ θ:CW p,θ.w.cell? ⟨B,3,none⟩=some (.slice (some ⟨gr,0,none⟩) 16 16)) /\
   (∀ θ:CW p,θ.w.cell? ⟨gr,q,none⟩=some (.func (.func fr) #[.pointer (some ⟨B,0,none⟩)] #[])) :=
  ⟨Kb E w,
   fun _ h=>h,
   fun _ h=>h,
   ⟨⟨_,Kb.refl _ _⟩⟩,
   fun θ=>(θ.h.cell hlg ng).trans t0v,
   fun θ=>(θ.h.cell hlg ng).trans hT.c1,
   fun θ=>(θ.h.cell hB nB).trans k3v,
   fun θ=>(θ.h.cell hgr hgn).trans hrc⟩
 clear hT hlg ng nB t0v k3v hrc hgr hgn hMT hq hq2 hne kn hB
 obtain⟨q2,hq2⟩:∃ q,plainB t=q:=⟨_,rfl⟩
 obtain⟨q3,hq3⟩:∃ q,symbolB t.name=q:=⟨_,rfl⟩
 rw[hq2] at cMore cRule ⊢
 rw[hq3] at cSym cRule ⊢
 clear hq2 hq3
 rcases ch4 bm q2 q3 bp with e1|⟨e1,e2⟩|⟨e1,e2,e3⟩|⟨e1,e2,e3,e4⟩|⟨e1,e2,e3,e4⟩
 ·subst e1
  clear cRule
  go_enter Tryz.func72,Tryz.ntmps72
  go_wp2_with fail
  refine wp_region_lx p (by kernel_rfl) (by kernel_rfl) (fun _ _ d _ _ h=>by cases d<;>exact h) (pK _ (Kb.refl _ _).drew) ?_
  repeat (first|(refine lx_one rfl ?_;(first|go_big_quiet_skip|(go_big_quiet_want;go_big_quiet_op;go_big_quiet_on));refine wpQuiet_nil ?_)|(refine lx_call2 ent_mayStand (cMay w.drew (tdr1 (Below.refl _ _))) rfl rfl (by rfl) ?_;intro W1 hb1;have j1:Below w.heap.size w W1:=(tdr1 (Below.refl _ _)).trans hb1;refine⟨⟨⟨_,pK _ (Kb.of_below j1)⟩,rfl⟩,?_⟩;simp only[pts])|(refine lx_skip (by rfl) ?_;simp only[pts]))
  refine lx_done ?_
  go_wp2_with fail
  all_goals
   go_ret
   exact⟨rfl,Kb.of_below j1,fun e=>by simp at e⟩
 ·subst e1 e2
  clear cRule
  go_enter Tryz.func72,Tryz.ntmps72
  go_wp2_with fail
  refine wp_region_lx p (by kernel_rfl) (by kernel_rfl) (fun _ _ d _ _ h=>by cases d<;>exact h) (pK _ (Kb.refl _ _).drew) ?_
  repeat (first|(refine lx_one rfl ?_;(first|go_big_quiet_skip|(go_big_quiet_want;go_big_quiet_op;go_big_quiet_on));refine wpQuiet_nil ?_)|(refine lx_call2 ent_mayStand (cMay w.drew (tdr1 (Below.refl _ _))) rfl rfl (by rfl) ?_;intro W1 hb1;have j1:Below w.heap.size w W1:=(tdr1 (Below.refl _ _)).trans hb1;refine⟨⟨⟨_,pK _ (Kb.of_below j1)⟩,rfl⟩,?_⟩;simp only[pts])|(refine lx_call1 ent_hasMore (cMore W1 j1) rfl (by rfl) ?_;intro W2 hb2;have j2:Below w.heap.size w W2:=j1.trans (hb2.mono j1.size);refine⟨⟨⟨_,pK _ (Kb.of_below j2)⟩,rfl⟩,?_⟩;simp only[pts])|(refine lx_skip (by rfl) ?_;simp only[pts]))
  refine lx_done ?_
  go_wp2_with fail
  all_goals
   go_ret
   exact⟨rfl,Kb.of_below j2,fun e=>by simp at e⟩
 ·subst e1 e2 e3
  clear cRule
  go_enter Tryz.func72,Tryz.ntmps72
  go_wp2_with fail
  refine wp_region_lx p (by kernel_rfl) (by kernel_rfl) (fun _ _ d _ _ h=>by cases d<;>exact h) (pK _ (Kb.refl _ _).drew) ?_
  repeat (first|(refine lx_one rfl ?_;(first|go_big_quiet_skip|(go_big_quiet_want;go_big_quiet_op;go_big_quiet_on));refine wpQuiet_nil ?_)|(refine lx_call2 ent_mayStand (cMay w.drew (tdr1 (Below.refl _ _))) rfl rfl (by rfl) ?_;intro W1 hb1;have j1:Below w.heap.size w W1:=(tdr1 (Below.refl _ _)).trans hb1;refine⟨⟨⟨_,pK _ (Kb.of_below j1)⟩,rfl⟩,?_⟩;simp only[pts])|(refine lx_call1 ent_hasMore (cMore W1 j1) rfl (by rfl) ?_;intro W2 hb2;have j2:Below w.heap.size w W2:=j1.trans (hb2.mono j1.size);refine⟨⟨⟨_,pK _ (Kb.of_below j2)⟩,rfl⟩,?_⟩;simp only[pts])|(refine lx_call1 ent_symbol (cSym W2) rfl (by rfl) ?_;intro w' hw';obtain rfl:W2=w':=hw'.symm;refine⟨⟨⟨_,pK _ (Kb.of_below j2)⟩,rfl⟩,?_⟩;simp only[pts])|(refine lx_skip (by rfl) ?_;simp only[pts]))
  refine lx_done ?_
  go_wp2_with fail
  all_goals
   go_ret
   exact⟨rfl,Kb.of_below j2,fun e=>by simp at e⟩
 ·subst e1 e2 e3 e4
  clear cRule
  go_enter Tryz.func72,Tryz.ntmps72
  go_wp2_with fail
  refine wp_region_lx p (by kernel_rfl) (by kernel_rfl) (fun _ _ d _ _ h=>by cases d<;>exact h) (pK _ (Kb.refl _ _).drew) ?_
  repeat (first|(refine lx_one rfl ?_;(first|go_big_quiet_skip|(go_big_quiet_want;go_big_quiet_op;go_big_quiet_on));refine wpQuiet_nil ?_)|(refine lx_call2 ent_mayStand (cMay w.drew (tdr1 (Below.refl _ _))) rfl rfl (by rfl) ?_;intro W1 hb1;have j1:Below w.heap.size w W1:=(tdr1 (Below.refl _ _)).trans hb1;refine⟨⟨⟨_,pK _ (Kb.of_below j1)⟩,rfl⟩,?_⟩;simp only[pts])|(refine lx_call1 ent_hasMore (cMore W1 j1) rfl (by rfl) ?_;intro W2 hb2;have j2:Below w.heap.size w W2:=j1.trans (hb2.mono j1.size);refine⟨⟨⟨_,pK _ (Kb.of_below j2)⟩,rfl⟩,?_⟩;simp only[pts])|(refine lx_call1 ent_symbol (cSym W2) rfl (by rfl) ?_;intro w' hw';obtain rfl:W2=w':=hw'.symm;refine⟨⟨⟨_,pK _ (Kb.of_below j2)⟩,rfl⟩,?_⟩;simp only[pts])|(refine lx_call2 ent_isPaired (cPair W2 j2) rfl rfl (by rfl) ?_;intro W3 hb3;have j3:Below w.heap.size w W3:=j2.trans (hb3.mono j2.size);refine⟨⟨⟨_,pK _ (Kb.of_below j3)⟩,rfl⟩,?_⟩;simp only[pts])|(refine lx_skip (by rfl) ?_;simp only[pts]))
  refine lx_done ?_
  go_wp2_with fail
  all_goals
   go_ret
   exact⟨rfl,Kb.of_below j3,fun e=>by simp at e⟩
 ·subst e1 e2 e3 e4
  replace cRule:=cRule rfl rfl rfl rfl
  go_enter Tryz.func72,Tryz.ntmps72
  go_wp2_with fail
  refine wp_region_lx p (by kernel_rfl) (by kernel_rfl) (fun _ _ d _ _ h=>by cases d<;>exact h) (pK _ (Kb.refl _ _).drew) ?_
  repeat (first|(refine lx_one rfl ?_;(first|go_big_quiet_skip|(go_big_quiet_want;go_big_quiet_op;go_big_quiet_on));refine wpQuiet_nil ?_)|(refine lx_call2 ent_mayStand (cMay w.drew (tdr1 (Below.refl _ _))) rfl rfl (by rfl) ?_;intro W1 hb1;have j1:Below w.heap.size w W1:=(tdr1 (Below.refl _ _)).trans hb1;refine⟨⟨⟨_,pK _ (Kb.of_below j1)⟩,rfl⟩,?_⟩;simp only[pts])|(refine lx_call1 ent_hasMore (cMore W1 j1) rfl (by rfl) ?_;intro W2 hb2;have j2:Below w.heap.size w W2:=j1.trans (hb2.mono j1.size);refine⟨⟨⟨_,pK _ (Kb.of_below j2)⟩,rfl⟩,?_⟩;simp only[pts])|(refine lx_call1 ent_symbol (cSym W2) rfl (by rfl) ?_;intro w' hw';obtain rfl:W2=w':=hw'.symm;refine⟨⟨⟨_,pK _ (Kb.of_below j2)⟩,rfl⟩,?_⟩;simp only[pts])|(refine lx_call2 ent_isPaired (cPair W2 j2) rfl rfl (by rfl) ?_;intro W3 hb3;have j3:Below w.heap.size w W3:=j2.trans (hb3.mono j2.size);refine⟨⟨⟨_,pK _ (Kb.of_below j3)⟩,rfl⟩,?_⟩;simp only[pts])|(refine lx_call1 ent_ends (cEnd W3) rfl (by rfl) ?_;intro w' hw';obtain rfl:W3=w':=hw'.symm;refine⟨⟨⟨_,pK _ (Kb.of_below j3)⟩,rfl⟩,?_⟩;simp only[pts])|(refine lx_callv hen (cRule W3 j3) rfl rfl (by rfl) ?_;intro W4 hR;refine⟨⟨⟨_,pK _ ((Kb.of_below j3).trans (hRR _ _ hR))⟩,rfl⟩,?_⟩;simp only[pts])|(refine lx_skip (by rfl) ?_;simp only[pts]))
  refine lx_done ?_
  go_wp2_with fail
  all_goals
   go_ret
   exact⟨rb (by simp),(Kb.of_below j3).trans (hRR _ _ hR),fun _=>⟨W3,j3,hR⟩⟩
theorem takes_end (B g ot:Nat) (t:Tk) (pc:Option Addr) (cc:Nat) (w:World) (hT:TkC w g ot t pc cc) (hlg:g<w.heap.size) (kn:t.name.size<=281474976710656) (q:Nat) (bm bp:Bool) (hq:t.op=q) (hq2:q<16) (hne:edO t.op=true) (hMT:MT w)
  (cMay:∀ W,Below w.heap.size w W->Calls Tryz.prog 93 #[.pointer (some ⟨B,0,none⟩),.int .i64 (q:Int)] W fun r w'=>r = .returned (.bool bm)/\Below W.heap.size W w')
  (cPair:∀ W,Below w.heap.size w W->Calls Tryz.prog 96 #[.pointer (some ⟨B,0,none⟩),.pointer (some ⟨g,ot,none⟩)] W fun r w'=>r = .returned (.bool bp)/\Below W.heap.size W w') :
  Calls Tryz.prog 72 #[.pointer (some ⟨B,0,none⟩),.pointer (some ⟨g,ot,none⟩)] w fun r w'=>r = .returned (.bool (bm&&plainB t&&symbolB t.name&&bp))/\Below w.heap.size w w':=by
 have t0v:w.cell? ⟨g,ot,none⟩=some (.int .i64 (q:Int)):=by rw[hT.c0,hq]
 have cMore:∀ W,Below w.heap.size w W->Calls Tryz.prog 94 #[.pointer (some ⟨g,ot,none⟩)] W fun r w'=>r = .returned (.bool (!plainB t))/\Below W.heap.size W w':=fun W hW=>hasMore_any t _ _ pc cc W (hT.below hlg hW) (Nat.lt_of_lt_of_le hlg hW.size) (hMT.below hMT.pos hW) (by omega)
 have cSym:=Symbol_any t.name (by omega)
 have cEnd:=fun W=>ends_any t.op W (by omega)
 rw[hne,hq] at cEnd
 obtain⟨p,pB,pK,hN,t0,t1⟩:∃ p:World->Prop,(∀ W,p W->Kb [] w W) /\
   (∀ W,Kb [] w W->p W) /\
   Nonempty (CW p) /\
   (∀ θ:CW p,θ.w.cell? ⟨g,ot,none⟩=some (.int .i64 (q:Int))) /\
   (∀ θ:CW p,θ.w.cell? ⟨g,ot+1,none⟩=some (.string t.name)) :=
  ⟨Kb [] w,
   fun _ h=>h,
   fun _ h=>h,
   ⟨⟨_,Kb.refl _ _⟩⟩,
   fun θ=>(θ.h.cell hlg List.not_mem_nil).trans t0v,
   fun θ=>(θ.h.cell hlg List.not_mem_nil).trans hT.c1⟩
 clear hT hlg t0v hMT hq hq2 hne kn
 obtain⟨q2,hq2⟩:∃ q,plainB t=q:=⟨_,rfl⟩
 obtain⟨q3,hq3⟩:∃ q,symbolB t.name=q:=⟨_,rfl⟩
 rw[hq2] at cMore ⊢
 rw[hq3] at cSym ⊢
 clear hq2 hq3
 rcases ch4 bm q2 q3 bp with e1|⟨e1,e2⟩|⟨e1,e2,e3⟩|⟨e1,e2,e3,e4⟩|⟨e1,e2,e3,e4⟩
 ·subst e1
  go_enter Tryz.func72,Tryz.ntmps72
  go_wp2_with fail
  refine wp_region_lx p (by kernel_rfl) (by kernel_rfl) (fun _ _ d _ _ h=>by cases d<;>exact h) (pK _ (Kb.refl _ _).drew) ?_
  repeat (first|(refine lx_one rfl ?_;(first|go_big_quiet_skip|(go_big_quiet_want;go_big_quiet_op;go_big_quiet_on));refine wpQuiet_nil ?_)|(refine lx_call2 ent_mayStand (cMay w.drew (tdr1 (Below.refl _ _))) rfl rfl (by rfl) ?_;intro W1 hb1;have j1:Below w.heap.size w W1:=(tdr1 (Below.refl _ _)).trans hb1;refine⟨⟨⟨_,pK _ (Kb.of_below j1)⟩,rfl⟩,?_⟩;simp only[pts])|(refine lx_skip (by rfl) ?_;simp only[pts]))
  refine lx_done ?_
  go_wp2_with fail
  all_goals
   go_ret
   exact⟨rfl,j1⟩
 ·subst e1 e2
  go_enter Tryz.func72,Tryz.ntmps72
  go_wp2_with fail
  refine wp_region_lx p (by kernel_rfl) (by kernel_rfl) (fun _ _ d _ _ h=>by cases d<;>exact h) (pK _ (Kb.refl _ _).drew) ?_
  repeat (first|(refine lx_one rfl ?_;(first|go_big_quiet_skip|(go_big_quiet_want;go_big_quiet_op;go_big_quiet_on));refine wpQuiet_nil ?_)|(refine lx_call2 ent_mayStand (cMay w.drew (tdr1 (Below.refl _ _))) rfl rfl (by rfl) ?_;intro W1 hb1;have j1:Below w.heap.size w W1:=(tdr1 (Below.refl _ _)).trans hb1;refine⟨⟨⟨_,pK _ (Kb.of_below j1)⟩,rfl⟩,?_⟩;simp only[pts])|(refine lx_call1 ent_hasMore (cMore W1 j1) rfl (by rfl) ?_;intro W2 hb2;have j2:Below w.heap.size w W2:=j1.trans (hb2.mono j1.size);refine⟨⟨⟨_,pK _ (Kb.of_below j2)⟩,rfl⟩,?_⟩;simp only[pts])|(refine lx_skip (by rfl) ?_;simp only[pts]))
  refine lx_done ?_
  go_wp2_with fail
  all_goals
   go_ret
   exact⟨rfl,j2⟩
 ·subst e1 e2 e3
  go_enter Tryz.func72,Tryz.ntmps72
  go_wp2_with fail
  refine wp_region_lx p (by kernel_rfl) (by kernel_rfl) (fun _ _ d _ _ h=>by cases d<;>exact h) (pK _ (Kb.refl _ _).drew) ?_
  repeat (first|(refine lx_one rfl ?_;(first|go_big_quiet_skip|(go_big_quiet_want;go_big_quiet_op;go_big_quiet_on));refine wpQuiet_nil ?_)|(refine lx_call2 ent_mayStand (cMay w.drew (tdr1 (Below.refl _ _))) rfl rfl (by rfl) ?_;intro W1 hb1;have j1:Below w.heap.size w W1:=(tdr1 (Below.refl _ _)).trans hb1;refine⟨⟨⟨_,pK _ (Kb.of_below j1)⟩,rfl⟩,?_⟩;simp only[pts])|(refine lx_call1 ent_hasMore (cMore W1 j1) rfl (by rfl) ?_;intro W2 hb2;have j2:Below w.heap.size w W2:=j1.trans (hb2.mono j1.size);refine⟨⟨⟨_,pK _ (Kb.of_below j2)⟩,rfl⟩,?_⟩;simp only[pts])|(refine lx_call1 ent_symbol (cSym W2) rfl (by rfl) ?_;intro w' hw';obtain rfl:W2=w':=hw'.symm;refine⟨⟨⟨_,pK _ (Kb.of_below j2)⟩,rfl⟩,?_⟩;simp only[pts])|(refine lx_skip (by rfl) ?_;simp only[pts]))
  refine lx_done ?_
  go_wp2_with fail
  all_goals
   go_ret
   exact⟨rfl,j2⟩
 ·subst e1 e2 e3 e4
  go_enter Tryz.func72,Tryz.ntmps72
  go_wp2_with fail
  refine wp_region_lx p (by kernel_rfl) (by kernel_rfl) (fun _ _ d _ _ h=>by cases d<;>exact h) (pK _ (Kb.refl _ _).drew) ?_
  repeat (first|(refine lx_one rfl ?_;(first|go_big_quiet_skip|(go_big_quiet_want;go_big_quiet_op;go_big_quiet_on));refine wpQuiet_nil ?_)|(refine lx_call2 ent_mayStand (cMay w.drew (tdr1 (Below.refl _ _))) rfl rfl (by rfl) ?_;intro W1 hb1;have j1:Below w.heap.size w W1:=(tdr1 (Below.refl _ _)).trans hb1;refine⟨⟨⟨_,pK _ (Kb.of_below j1)⟩,rfl⟩,?_⟩;simp only[pts])|(refine lx_call1 ent_hasMore (cMore W1 j1) rfl (by rfl) ?_;intro W2 hb2;have j2:Below w.heap.size w W2:=j1.trans (hb2.mono j1.size);refine⟨⟨⟨_,pK _ (Kb.of_below j2)⟩,rfl⟩,?_⟩;simp only[pts])|(refine lx_call1 ent_symbol (cSym W2) rfl (by rfl) ?_;intro w' hw';obtain rfl:W2=w':=hw'.symm;refine⟨⟨⟨_,pK _ (Kb.of_below j2)⟩,rfl⟩,?_⟩;simp only[pts])|(refine lx_call2 ent_isPaired (cPair W2 j2) rfl rfl (by rfl) ?_;intro W3 hb3;have j3:Below w.heap.size w W3:=j2.trans (hb3.mono j2.size);refine⟨⟨⟨_,pK _ (Kb.of_below j3)⟩,rfl⟩,?_⟩;simp only[pts])|(refine lx_skip (by rfl) ?_;simp only[pts]))
  refine lx_done ?_
  go_wp2_with fail
  all_goals
   go_ret
   exact⟨rfl,j3⟩
 ·subst e1 e2 e3 e4
  go_enter Tryz.func72,Tryz.ntmps72
  go_wp2_with fail
  refine wp_region_lx p (by kernel_rfl) (by kernel_rfl) (fun _ _ d _ _ h=>by cases d<;>exact h) (pK _ (Kb.refl _ _).drew) ?_
  repeat (first|(refine lx_one rfl ?_;(first|go_big_quiet_skip|(go_big_quiet_want;go_big_quiet_op;go_big_quiet_on));refine wpQuiet_nil ?_)|(refine lx_call2 ent_mayStand (cMay w.drew (tdr1 (Below.refl _ _))) rfl rfl (by rfl) ?_;intro W1 hb1;have j1:Below w.heap.size w W1:=(tdr1 (Below.refl _ _)).trans hb1;refine⟨⟨⟨_,pK _ (Kb.of_below j1)⟩,rfl⟩,?_⟩;simp only[pts])|(refine lx_call1 ent_hasMore (cMore W1 j1) rfl (by rfl) ?_;intro W2 hb2;have j2:Below w.heap.size w W2:=j1.trans (hb2.mono j1.size);refine⟨⟨⟨_,pK _ (Kb.of_below j2)⟩,rfl⟩,?_⟩;simp only[pts])|(refine lx_call1 ent_symbol (cSym W2) rfl (by rfl) ?_;intro w' hw';obtain rfl:W2=w':=hw'.symm;refine⟨⟨⟨_,pK _ (Kb.of_below j2)⟩,rfl⟩,?_⟩;simp only[pts])|(refine lx_call2 ent_isPaired (cPair W2 j2) rfl rfl (by rfl) ?_;intro W3 hb3;have j3:Below w.heap.size w W3:=j2.trans (hb3.mono j2.size);refine⟨⟨⟨_,pK _ (Kb.of_below j3)⟩,rfl⟩,?_⟩;simp only[pts])|(refine lx_call1 ent_ends (cEnd W3) rfl (by rfl) ?_;intro w' hw';obtain rfl:W3=w':=hw'.symm;refine⟨⟨⟨_,pK _ (Kb.of_below j3)⟩,rfl⟩,?_⟩;simp only[pts])|(refine lx_skip (by rfl) ?_;simp only[pts]))
  refine lx_done ?_
  go_wp2_with fail
  all_goals
   go_ret
   exact⟨rfl,j3⟩
theorem Keys.congr {ids:List Int} {H1 G1:Int->Prop} {H2 G2:Nat->ByteArray->Prop} {H3 G3:Nat->Int->Prop} (h:Keys l o i ids H1 H2 H3) (e1:∀ d,G1 d↔H1 d) (e2:∀ k n,G2 k n↔H2 k n) (e3:∀ k v,G3 k v↔H3 k v):Keys l o i ids G1 G2 G3 :=
 ⟨fun d=>(e1 d).trans (h.id d),fun s hs he n=>(e2 _ n).trans (h.nm s hs he n),fun s hs he n=>(e2 _ n).trans (h.ch s hs he n),fun s hs he v=>(e3 _ v).trans (h.vl s hs he v),
  fun k hk=>⟨fun n e=>(h.no k hk).1 n ((e2 k n).1 e),fun v e=>(h.no k hk).2 v ((e3 k v).1 e)⟩⟩
abbrev KeysV (l:List Tk) (o:List Sc) (i:Nat) (ids:List Int) (h1 h2 h3:Value->Prop):Prop:=Keys l o i ids (fun d=>h1 (.int .i64 d)) (fun k n=>h2 (nmK k n)) (fun k v=>h3 (vlK k v))
theorem nmK_eq {s t:ByteArray}:nmK a s=nmK b t↔a=b/\s=t:=by
 constructor
 ·intro e
  simp only[Value.agg.injEq,Array.mk.injEq,List.cons.injEq,Value.int.injEq,Value.string.injEq,true_and,and_true] at e
  exact⟨by omega,e.2⟩
 ·rintro⟨rfl,rfl⟩;rfl
theorem vlK_eq {s t:Int}:vlK a s=vlK b t↔a=b/\s=t:=by
 constructor
 ·intro e
  simp only[Value.agg.injEq,Array.mk.injEq,List.cons.injEq,Value.int.injEq,true_and,and_true] at e
  exact⟨by omega,e.2⟩
 ·rintro⟨rfl,rfl⟩;rfl
theorem intK_eq {a b:Int}:Value.int .i64 a=Value.int .i64 b↔a=b:=by simp
theorem notB {b:Bool} {p:Prop} (h:p↔b=true):(!b)=true↔¬ p:=by rw[h];cases b<;>simp
structure Rst (w':World) (c:Cf) (f:Fm) (L:List Sv) (x:Sc) (r:List Sc) (t:Tk) (rl:Value) (dep:Nat->Int) (wh:Bool) (n:Nat) (ids:List Int):Prop where
 ex:∃ x' h1 h2 h3,Ct w' c f L x' x.tk t rl dep wh/\Cm w' c (n+1) h1 h2 h3/\stp x' t.op=svOf f.toks (metX x c.i t)/\KeysV f.toks (metX x c.i t::r) c.i ids h1 h2 h3
theorem Cm.up {w:World} {c:Cf} {n:Nat} {h1 h2 h3:Value->Prop} (h:Cm w c n h1 h2 h3) (hn:n<17592186043000):Cm w c (n+1) h1 h2 h3:=⟨h.m1.mono (by omega),h.m2.mono (by omega),h.m3.mono (by omega),by omega⟩
section
variable {c:Cf} {f:Fm} {L:List Sv} {x:Sc} {r:List Sc} {t:Tk} {rl:Value} {dep:Nat->Int} {wh:Bool} {n:Nat} {ids:List Int} {h1 h2 h3:Value->Prop}
theorem keysP (hK:KeysV f.toks (x::r) i ids h1 h2 h3) (ht:f.toks[i]?=some t) (hx:x.tk.op=0\/x.tk.op=4) (hlt:x.at_<i) (hr:∀ a∈r,a.at_<x.at_) :
  KeysV f.toks (metX x i t::r) i (ids++[t.id]) (fun v=>v = .int .i64 t.id\/h1 v) (fun v=>v=nmK x.at_ t.name\/h2 v) h3 :=
 (keys_part hK ht hx hlt hr).congr (fun _=>or_congr intK_eq Iff.rfl) (fun _ _=>or_congr nmK_eq Iff.rfl) (fun _ _=>Iff.rfl)
theorem rule_fld (w:World) (h:Ct w c f L (svOf f.toks x) x.tk t rl dep wh) (hm:Cm w c n h1 h2 h3) (hn:n<17592186043000) (hK:KeysV f.toks (x::r) c.i ids h1 h2 h3) (hx:ScOk f.toks c.i x) (hr:∀ a∈r,a.at_<x.at_) (ho:x.tk.op=0\/x.tk.op=4) (q2:t.op=2) (hp:pairB f.toks c.i t=true) :
  Calls Tryz.prog 86 #[.pointer (some ⟨c.B,0,none⟩),.pointer (some ⟨c.g,c.o+c.i*21,none⟩)] w fun e w'=>e = .returned (.bool (fldB f ids c.i x t))/\Kb [c.m1,c.m2,c.m3,c.go] w w'/\(fldB f ids c.i x t=true->Rst w' c f L x r t rl dep wh n (ids++[t.id])):=by
 obtain⟨m,u0,hm0,hm1,hm2,_⟩:=pairB_get hp
 obtain⟨u,hu⟩:∃ u,f.toks[c.i+1]?=some u:=⟨f.toks[c.i+1]'(by omega),List.getElem?_eq_getElem (by omega)⟩
 have h0:=pl_msg hx.pln (by omega)
 have he:=hx.e0
 refine(isField_any c f L (svOf f.toks x) x.tk t rl dep wh w h n h1 h2 h3 (!(ids.contains t.id)) (!(nameIn f.toks x.kids t.name)) hm hn (notB (hK.id t.id)) (notB (hK.nm x (List.mem_cons_self ..) ho t.name)) u hu hx.blk).mono ?_
 rintro _ w' ⟨rfl,hL⟩
 rw[fld_eq f ids c.i x t u hu h0 he.1] at hL ⊢
 refine⟨rfl,hL.kb.mono (fun a ha=>by simp at ha ⊢;omega),fun hb=>?_⟩
 obtain⟨hC,hM⟩:=hL.ct hb
 exact⟨_,_,_,_,hC,hM,left_fld h.ht q2 ho h0 he.1 hx.blk.2 hb,keysP hK h.ht ho hx.lt hr⟩
theorem rule_dat (w:World) (h:Ct w c f L (svOf f.toks x) x.tk t rl dep wh) (hm:Cm w c n h1 h2 h3) (hn:n<17592186043000) (hK:KeysV f.toks (x::r) c.i ids h1 h2 h3) (hx:ScOk f.toks c.i x) (hr:∀ a∈r,a.at_<x.at_) (ho:x.tk.op=0\/x.tk.op=4) (q2:t.op=6) :
  Calls Tryz.prog 88 #[.pointer (some ⟨c.B,0,none⟩),.pointer (some ⟨c.g,c.o+c.i*21,none⟩)] w fun e w'=>e = .returned (.bool (datB f ids x t))/\Kb [c.m1,c.m2,c.m3,c.go] w w'/\(datB f ids x t=true->Rst w' c f L x r t rl dep wh n (ids++[t.id])):=by
 refine(isData_any c f L (svOf f.toks x) x.tk t rl dep wh w h n h1 h2 h3 (!(ids.contains t.id)) (!(nameIn f.toks x.kids t.name)) hm hn (notB (hK.id t.id)) (notB (hK.nm x (List.mem_cons_self ..) ho t.name))).mono ?_
 rintro _ w' ⟨rfl,hL⟩
 rw[dat_eq f ids x t] at hL ⊢
 refine⟨rfl,hL.kb.mono (fun a ha=>by simp at ha ⊢;omega),fun hb=>?_⟩
 obtain⟨hC,hM⟩:=hL.ct hb
 exact⟨_,_,_,_,hC,hM,left_row h.ht (.inr q2) ho,keysP hK h.ht ho hx.lt hr⟩
theorem rule_grp (w:World) (h:Ct w c f L (svOf f.toks x) x.tk t rl dep wh) (hm:Cm w c n h1 h2 h3) (hn:n<17592186043000) (hK:KeysV f.toks (x::r) c.i ids h1 h2 h3) (hx:ScOk f.toks c.i x) (hr:∀ a∈r,a.at_<x.at_) (ho:x.tk.op=0\/x.tk.op=4) (q2:t.op=4) (hd:depOk (x::r) dep) :
  Calls Tryz.prog 87 #[.pointer (some ⟨c.B,0,none⟩),.pointer (some ⟨c.g,c.o+c.i*21,none⟩)] w fun e w'=>e = .returned (.bool (grpB f (x::r) ids x t))/\Kb [c.m1,c.m2,c.m3,c.go] w w'/\(grpB f (x::r) ids x t=true->Rst w' c f L x r t rl dep wh n (ids++[t.id])):=by
 have c1:=isGroup_any c f L (svOf f.toks x) x.tk t rl dep wh w h n h1 h2 h3 (!(ids.contains t.id)) (!(nameIn f.toks x.kids t.name)) hm hn (notB (hK.id t.id)) (notB (hK.nm x (List.mem_cons_self ..) ho t.name)) q2
 rw[show dep 4=(depB 4 (x::r):Int) from hd 4 (by decide)] at c1
 refine c1.mono ?_
 rintro _ w' ⟨rfl,hL⟩
 rw[grp_eq f (x::r) ids x t] at hL ⊢
 refine⟨rfl,hL.kb.mono (fun a ha=>by simp at ha ⊢;omega),fun hb=>?_⟩
 obtain⟨hC,hM⟩:=hL.ct hb
 exact⟨_,_,_,_,hC,hM,left_row h.ht (.inl q2) ho,keysP hK h.ht ho hx.lt hr⟩
theorem rule_cmp (w:World) (h:Ct w c f L (svOf f.toks x) x.tk t rl dep wh) (hm:Cm w c n h1 h2 h3) (hn:n<17592186043000) (hK:KeysV f.toks (x::r) c.i ids h1 h2 h3) (hx:ScOk f.toks c.i x) (ho:x.tk.op=2\/x.tk.op=8\/((x.tk.op=10\/x.tk.op=12)/\x.kids=[]/\c.i=x.at_+1)) (q2:t.op=8) (hd:depOk (x::r) dep) :
  Calls Tryz.prog 89 #[.pointer (some ⟨c.B,0,none⟩),.pointer (some ⟨c.g,c.o+c.i*21,none⟩)] w fun e w'=>e = .returned (.bool (cmpB (x::r) x t))/\Kb [c.m1,c.m2,c.m3,c.go] w w'/\(cmpB (x::r) x t=true->Rst w' c f L x r t rl dep wh n ids):=by
 have c1:=isComposite_any c f L (svOf f.toks x) x.tk t rl dep wh w h q2 (by omega) ⟨hx.off.1,hx.off.2.2.2⟩ ⟨hx.off.2.1,hx.off.2.2.1⟩
 rw[show dep 8=(depB 8 (x::r):Int) from hd 8 (by decide)] at c1
 refine c1.mono ?_
 rintro _ w' ⟨rfl,hL⟩
 rw[cmp_eq f.toks (x::r) x t] at hL ⊢
 refine⟨rfl,hL.kb.mono (fun a ha=>by simp at ha ⊢;omega),fun hb=>?_⟩
 exact⟨_,_,_,_,hL.ct hb,(hm.kept hL.kb (notin1 h.ap.o1.symm) (notin1 h.ap.o2.symm) (notin1 h.ap.o3.symm)).up hn,left_typ h.ht (by rw[q2];decide) ho (by unfold cmpB at hb;rw[Bool.and_eq_true] at hb;exact hb.2),keys_typ hK (by rcases ho with e|e|e;(left;exact e);(right;left;exact e);(right;right;exact⟨e.1,e.2.1⟩))⟩
theorem rule_plc (w:World) (h:Ct w c f L (svOf f.toks x) x.tk t rl dep wh) (hm:Cm w c n h1 h2 h3) (hn:n<17592186043000) (hK:KeysV f.toks (x::r) c.i ids h1 h2 h3) (hx:ScOk f.toks c.i x) (ho:x.tk.op=2\/x.tk.op=8\/((x.tk.op=10\/x.tk.op=12)/\x.kids=[]/\c.i=x.at_+1)) (q2:t.op=10\/t.op=12) :
  Calls Tryz.prog 90 #[.pointer (some ⟨c.B,0,none⟩),.pointer (some ⟨c.g,c.o+c.i*21,none⟩)] w fun e w'=>e = .returned (.bool (plcB x t))/\Kb [c.m1,c.m2,c.m3,c.go] w w'/\(plcB x t=true->Rst w' c f L x r t rl dep wh n ids):=by
 refine(isPlaced_any c f L (svOf f.toks x) x.tk t rl dep wh w h (by omega) ⟨hx.off.1,hx.off.2.2.2⟩ ⟨hx.off.2.1,hx.off.2.2.1⟩).mono ?_
 rintro _ w' ⟨rfl,hL⟩
 rw[plc_eq f.toks x t] at hL ⊢
 refine⟨rfl,hL.kb.mono (fun a ha=>by simp at ha ⊢;omega),fun hb=>?_⟩
 exact⟨_,_,_,_,hL.ct hb,(hm.kept hL.kb (notin1 h.ap.o1.symm) (notin1 h.ap.o2.symm) (notin1 h.ap.o3.symm)).up hn,left_typ h.ht (by rcases q2 with e|e<;>rw[e]<;>decide) ho hb,keys_typ hK (by rcases ho with e|e|e;(left;exact e);(right;left;exact e);(right;right;exact⟨e.1,e.2.1⟩))⟩
theorem rule_enc (w:World) (h:Ct w c f L (svOf f.toks x) x.tk t rl dep wh) (hm:Cm w c n h1 h2 h3) (hn:n<17592186043000) (hK:KeysV f.toks (x::r) c.i ids h1 h2 h3) (hx:ScOk f.toks c.i x) (ho:x.tk.op=2\/x.tk.op=8\/((x.tk.op=10\/x.tk.op=12)/\x.kids=[]/\c.i=x.at_+1)) (q2:t.op=14) :
  Calls Tryz.prog 91 #[.pointer (some ⟨c.B,0,none⟩),.pointer (some ⟨c.g,c.o+c.i*21,none⟩)] w fun e w'=>e = .returned (.bool (encB x t))/\Kb [c.m1,c.m2,c.m3,c.go] w w'/\(encB x t=true->Rst w' c f L x r t rl dep wh n ids):=by
 refine(isEncoding_any c f L (svOf f.toks x) x.tk t rl dep wh w h (by omega) ⟨hx.off.1,hx.off.2.2.2⟩ ⟨hx.off.2.1,hx.off.2.2.1⟩).mono ?_
 rintro _ w' ⟨rfl,hL⟩
 rw[enc_eq f.toks x t] at hL ⊢
 refine⟨rfl,hL.kb.mono (fun a ha=>by simp at ha ⊢;omega),fun hb=>?_⟩
 exact⟨_,_,_,_,hL.ct hb,(hm.kept hL.kb (notin1 h.ap.o1.symm) (notin1 h.ap.o2.symm) (notin1 h.ap.o3.symm)).up hn,left_typ h.ht (by rw[q2];decide) ho (by unfold encB at hb;simp only[Bool.and_eq_true] at hb;exact hb.1.1.1),keys_typ hK (by rcases ho with e|e|e;(left;exact e);(right;left;exact e);(right;right;exact⟨e.1,e.2.1⟩))⟩
theorem rule_cho (w:World) (h:Ct w c f L (svOf f.toks x) x.tk t rl dep wh) (hm:Cm w c n h1 h2 h3) (hn:n<17592186043000) (hK:KeysV f.toks (x::r) c.i ids h1 h2 h3) (hx:ScOk f.toks c.i x) (hr:∀ a∈r,a.at_<x.at_) (ho:x.tk.op=10\/x.tk.op=12) (hk:x.kids≠[]) (q2:t.op=15) :
  Calls Tryz.prog 92 #[.pointer (some ⟨c.B,0,none⟩),.pointer (some ⟨c.g,c.o+c.i*21,none⟩)] w fun e w'=>e = .returned (.bool (choB f.toks x t))/\Kb [c.m1,c.m2,c.m3,c.go] w w'/\(choB f.toks x t=true->Rst w' c f L x r t rl dep wh n ids):=by
 refine(isChoice_any c f L (svOf f.toks x) x.tk t rl dep wh w h n h1 h2 h3 (!(nameIn f.toks x.kids.tail t.name)) (!(valIn f.toks x.kids.tail t.val)) hm hn (notB (hK.ch x (List.mem_cons_self ..) ho t.name)) (notB (hK.vl x (List.mem_cons_self ..) ho t.val))).mono ?_
 rintro _ w' ⟨rfl,hL⟩
 rw[cho_eq f.toks x t] at hL ⊢
 refine⟨rfl,hL.kb.mono (fun a ha=>by simp at ha ⊢;omega),fun hb=>?_⟩
 obtain⟨hC,hM⟩:=hL.ct hb
 exact⟨_,_,_,_,hC,hM,left_cho h.ht q2 ho hk,(keys_cho hK h.ht ho hk hx.lt hr).congr (fun _=>Iff.rfl) (fun _ _=>or_congr nmK_eq Iff.rfl) (fun _ _=>or_congr vlK_eq Iff.rfl)⟩
end
def rulA (B:Nat):Array Value:=#[.func (.func 85) #[.pointer (some ⟨B,0,none⟩)] #[],.nilFunc,.func (.func 86) #[.pointer (some ⟨B,0,none⟩)] #[],.nilFunc,.func (.func 87) #[.pointer (some ⟨B,0,none⟩)] #[],.nilFunc,.func (.func 88) #[.pointer (some ⟨B,0,none⟩)] #[],.nilFunc,.func (.func 89) #[.pointer (some ⟨B,0,none⟩)] #[],.nilFunc,.func (.func 90) #[.pointer (some ⟨B,0,none⟩)] #[],.nilFunc,.func (.func 90) #[.pointer (some ⟨B,0,none⟩)] #[],.nilFunc,.func (.func 91) #[.pointer (some ⟨B,0,none⟩)] #[],.func (.func 92) #[.pointer (some ⟨B,0,none⟩)] #[]]
theorem al5 (w:World) (a b c d e:Obj):(((((w.alloc a).alloc b).alloc c).alloc d).alloc e).heap[w.heap.size]?=some a/\(((((w.alloc a).alloc b).alloc c).alloc d).alloc e).heap[w.heap.size+1]?=some b/\(((((w.alloc a).alloc b).alloc c).alloc d).alloc e).heap[w.heap.size+2]?=some c/\(((((w.alloc a).alloc b).alloc c).alloc d).alloc e).heap[w.heap.size+3]?=some d/\(((((w.alloc a).alloc b).alloc c).alloc d).alloc e).heap[w.heap.size+4]?=some e/\(((((w.alloc a).alloc b).alloc c).alloc d).alloc e).heap.size=w.heap.size+5/\Below w.heap.size w (((((w.alloc a).alloc b).alloc c).alloc d).alloc e):=by
 have s1:=World.size_alloc w a
 have s2:=World.size_alloc (w.alloc a) b
 have s3:=World.size_alloc ((w.alloc a).alloc b) c
 have s4:=World.size_alloc (((w.alloc a).alloc b).alloc c) d
 have s5:=World.size_alloc ((((w.alloc a).alloc b).alloc c).alloc d) e
 have b1:=bel1 w a
 have b2:=bel1 (w.alloc a) b
 have b3:=bel1 ((w.alloc a).alloc b) c
 have b4:=bel1 (((w.alloc a).alloc b).alloc c) d
 have b5:=bel1 ((((w.alloc a).alloc b).alloc c).alloc d) e
 have h1:=heap_al w a
 have h2:=heap_al (w.alloc a) b
 have h3:=heap_al ((w.alloc a).alloc b) c
 have h4:=heap_al (((w.alloc a).alloc b).alloc c) d
 have h5:=heap_al ((((w.alloc a).alloc b).alloc c).alloc d) e
 generalize ((((w.alloc a).alloc b).alloc c).alloc d).alloc e=w5 at *
 generalize (((w.alloc a).alloc b).alloc c).alloc d=w4 at *
 generalize ((w.alloc a).alloc b).alloc c=w3 at *
 generalize (w.alloc a).alloc b=w2 at *
 generalize w.alloc a=w1 at *
 rw[s1] at s2 h2
 rw[s2] at s3 h3
 rw[s3] at s4 h4
 rw[s4] at s5 h5
 refine⟨?_,?_,?_,?_,h5,s5,?_⟩
 ·rw[b5.block _ (by omega),b4.block _ (by omega),b3.block _ (by omega),b2.block _ (by omega)];exact h1
 ·rw[b5.block _ (by omega),b4.block _ (by omega),b3.block _ (by omega)];exact h2
 ·rw[b5.block _ (by omega),b4.block _ (by omega)];exact h3
 ·rw[b5.block _ (by omega)];exact h4
 ·exact(((b1.trans (b2.mono (by omega))).trans (b3.mono (by omega))).trans (b4.mono (by omega))).trans (b5.mono (by omega))
theorem newChecker_any (gf:Nat) (w:World) :
  Calls Tryz.prog 71 #[.pointer (some ⟨gf,0,none⟩)] w fun r w'=>r = .returned (.pointer (some ⟨w.heap.size+3,0,none⟩))/\CkH w' (w.heap.size+3) gf (.slice none 0 0) 0 (.slice (some ⟨w.heap.size+4,0,none⟩) 16 16) w.heap.size (w.heap.size+1) (w.heap.size+2) (fun _=>0) false/\(∀ q:Nat,w'.cell? ⟨w.heap.size+4,q,none⟩=(rulA (w.heap.size+3))[q]?)/\MHas w' 3 w.heap.size 0 (fun _=>False)/\MHas w' 176 (w.heap.size+1) 0 (fun _=>False)/\MHas w' 162 (w.heap.size+2) 0 (fun _=>False)/\w'.heap.size=w.heap.size+5/\Below w.heap.size w w':=by
 have mk:=fun t W=>run_makeMap (P:=Tryz.prog) t W
 go_enter Tryz.func71,Tryz.ntmps71
 go_wp2_with fail
 obtain⟨a1,a2,a3,a4,a5,a6,a7⟩:=al5 w (Obj.map #[] 0) (Obj.map #[] 0) (Obj.map #[] 0) (Obj.cells (ckA gf (.slice none 0 0) 0 (.slice (some ⟨w.heap.size+4,0,none⟩) 16 16) w.heap.size (w.heap.size+1) (w.heap.size+2) (fun _=>0) false) 134) (Obj.cells (rulA (w.heap.size+3)) 136)
 go_ret
 refine⟨rfl,a4,fun q=>cell_at a5 q,?_,?_,?_,a6,a7⟩
 ·exact(MHas.made w _).same (a1.trans (heap_al _ _).symm)
 ·have:=MHas.made (w.alloc (.map #[] 0)) 176
  rw[World.size_alloc] at this
  refine this.same (a2.trans ?_)
  rw[<- World.size_alloc w (.map #[] 0)]
  exact(heap_al _ _).symm
 ·have:=MHas.made ((w.alloc (.map #[] 0)).alloc (.map #[] 0)) 162
  rw[World.size_alloc,World.size_alloc] at this
  refine this.same (a3.trans ?_)
  have hh:=heap_al ((w.alloc (.map #[] 0)).alloc (.map #[] 0)) (.map #[] 0)
  rw[World.size_alloc,World.size_alloc] at hh
  exact hh.symm
theorem takes_no (B g ot:Nat) (op:Int) (w:World) (t0v:w.cell? ⟨g,ot,none⟩=some (.int .i64 op)) (hlg:g<w.heap.size)
  (cMay:∀ W,Below w.heap.size w W->Calls Tryz.prog 93 #[.pointer (some ⟨B,0,none⟩),.int .i64 op] W fun r w'=>r = .returned (.bool false)/\Below W.heap.size W w') :
  Calls Tryz.prog 72 #[.pointer (some ⟨B,0,none⟩),.pointer (some ⟨g,ot,none⟩)] w fun r w'=>r = .returned (.bool false)/\Below w.heap.size w w':=by
 obtain⟨p,pB,pK,hN,t0⟩:∃ p:World->Prop,(∀ W,p W->Kb [] w W) /\
   (∀ W,Kb [] w W->p W) /\
   Nonempty (CW p) /\
   (∀ θ:CW p,θ.w.cell? ⟨g,ot,none⟩=some (.int .i64 op)) :=
  ⟨Kb [] w,
   fun _ h=>h,
   fun _ h=>h,
   ⟨⟨_,Kb.refl _ _⟩⟩,
   fun θ=>(θ.h.cell hlg List.not_mem_nil).trans t0v⟩
 clear t0v hlg
 go_enter Tryz.func72,Tryz.ntmps72
 go_wp2_with fail
 refine wp_region_lx p (by kernel_rfl) (by kernel_rfl) (fun _ _ d _ _ h=>by cases d<;>exact h) (pK _ (Kb.refl _ _).drew) ?_
 repeat (first|(refine lx_one rfl ?_;(first|go_big_quiet_skip|(go_big_quiet_want;go_big_quiet_op;go_big_quiet_on));refine wpQuiet_nil ?_)|(refine lx_call2 ent_mayStand (cMay w.drew (tdr1 (Below.refl _ _))) rfl rfl (by rfl) ?_;intro W1 hb1;have j1:Below w.heap.size w W1:=(tdr1 (Below.refl _ _)).trans hb1;refine⟨⟨⟨_,pK _ (Kb.of_below j1)⟩,rfl⟩,?_⟩;simp only[pts])|(refine lx_skip (by rfl) ?_;simp only[pts]))
 refine lx_done ?_
 go_wp2_with fail
 all_goals
  go_ret
  exact⟨rfl,j1⟩
theorem may_op {x:Sc} {op:Int} (h:mayB l x op=true) (hb:bgO x.tk.op=true):0<=op/\op<16:=by
 cases he:edO op with
 | true=>unfold edO at he;have:=decT he;omega
 | false =>
  rcases may_typ h he hb with ⟨_,h,_⟩|⟨_,_,h⟩|⟨_,h⟩|⟨_,⟨_,h⟩|⟨_,h⟩⟩
  ·unfold ptO at h;have:=decT h;omega
  ·unfold tyO at h;have:=decT h;omega
  ·unfold tyO at h;have:=decT h;omega
  ·omega
  ·omega
structure RlC (w:World) (c:Cf) (gr:Nat):Prop where
 lt:gr<w.heap.size
 m1:gr≠c.m1
 m2:gr≠c.m2
 m3:gr≠c.m3
 go:gr≠c.go
 c:∀ q:Nat,w.cell? ⟨gr,q,none⟩=(rulA c.B)[q]?
section
variable {c:Cf} {f:Fm} {x:Sc} {r:List Sc} {t:Tk} {gr:Nat} {dep:Nat->Int} {wh:Bool} {n:Nat} {ids:List Int} {h1 h2 h3:Value->Prop}
theorem nest_at (hN:Nest f.toks c.i (x::o)) (hA:∀ a∈x::o,ScOk f.toks c.i a):∀ a∈o,a.at_<x.at_:=out_lt hN.2.2 (fun a ha=>hA a (List.mem_cons_of_mem _ ha))
theorem takes_one (w:World) (h:Ct w c f (r.reverse.map (svOf f.toks)) (svOf f.toks x) x.tk t (.slice (some ⟨gr,0,none⟩) 16 16) dep wh) (hg:RlC w c gr) (hMT:MT w) (hx:ScOk f.toks c.i x) (q fr:Nat) (br bp:Bool) (P:World->Prop) (hq:t.op=q) (hq2:q<16) (hne:edO t.op=false) (hrc:(rulA c.B)[q]?=some (.func (.func fr) #[.pointer (some ⟨c.B,0,none⟩)] #[])) (hen:∀ ag w,(callFunc fr ag).run Tryz.prog w = .ok (.enter fr ag) w)
  (cPair:∀ W,Below w.heap.size w W->Calls Tryz.prog 96 #[.pointer (some ⟨c.B,0,none⟩),.pointer (some ⟨c.g,c.o+c.i*21,none⟩)] W fun r w'=>r = .returned (.bool bp)/\Below W.heap.size W w')
  (cRule:mayB f.toks x t.op=true->plainB t=true->symbolB t.name=true->bp=true->∀ W,Below w.heap.size w W->Calls Tryz.prog fr #[.pointer (some ⟨c.B,0,none⟩),.pointer (some ⟨c.g,c.o+c.i*21,none⟩)] W fun r w'=>r = .returned (.bool br)/\Kb [c.m1,c.m2,c.m3,c.go] W w'/\(br=true->P w')) :
  Calls Tryz.prog 72 #[.pointer (some ⟨c.B,0,none⟩),.pointer (some ⟨c.g,c.o+c.i*21,none⟩)] w fun e w'=>e = .returned (.bool (mayB f.toks x t.op&&plainB t&&symbolB t.name&&(bp&&br)))/\Kb [c.m1,c.m2,c.m3,c.go] w w'/\((mayB f.toks x t.op&&plainB t&&symbolB t.name&&(bp&&br))=true->P w'):=by
 obtain⟨g0,o0,pc,cc,e0,hgH,hT,hU,hUc,kT⟩:=h.tl.at h.ht
 cases e0
 obtain⟨_,_,px,cx,e1,_,hXk,_⟩:=h.tl.at h.hx
 cases e1
 have hap:=h.ap
 have c1:=takes_rule [c.m1,c.m2,c.m3,c.go] c.B c.g (c.o+c.i*21) t pc cc w hT h.lg kT.name h.ck.lt (by simp;have:=hap.g;have:=hap.m1;have:=hap.m2;have:=hap.m3;have:=hap.go;omega) (by simp;exact⟨hap.B1,hap.B2,hap.B3,hap.Bo⟩) q gr fr (mayB f.toks x t.op) br bp (fun W w'=>Kb [c.m1,c.m2,c.m3,c.go] W w'/\(br=true->P w')) hq hq2 hne h.ck.c3 hg.lt (by simp;exact⟨hg.m1,hg.m2,hg.m3,hg.go⟩) (by rw[hg.c];exact hrc) hen hMT
  (fun W hW=>by
   have hC:=(h.below hW)
   have c2:=mayStand_any c.B c.gf c.go (r.reverse.map (svOf f.toks)).length c.cap c.g c.o c.m1 c.m2 c.m3 (c.i:Int) (q:Int) x.tk.op _ dep wh (svOf f.toks x) W hC.ck hC.op.last hC.op.lt hC.lg (by obtain⟨_,_,px,cx,e1,_,hXk,_⟩:=hC.tl.at hC.hx;cases e1;exact hXk.c0) h.ln hx.beg
   rw[show mayP x.tk.op (svOf f.toks x).last (svOf f.toks x).cnt (q:Int)=mayB f.toks x (q:Int) from may_eq f.toks x q,<- hq] at c2
   rw[<- hq]
   exact c2)
  cPair cRule (fun _ _ h=>h.1)
 refine c1.mono ?_
 rintro _ w' ⟨rfl,hL⟩
 have e:(mayB f.toks x t.op&&plainB t&&symbolB t.name&&bp&&br)=(mayB f.toks x t.op&&plainB t&&symbolB t.name&&(bp&&br)):=by rw[Bool.and_assoc]
 rw[e] at hL ⊢
 exact⟨rfl,hL.kb,fun hb=>by
  obtain⟨W,_,_,hP⟩:=hL.ct hb
  simp only[Bool.and_eq_true] at hb
  exact hP hb.2.2⟩
theorem takes_mid (w:World) (h:Ct w c f (r.reverse.map (svOf f.toks)) (svOf f.toks x) x.tk t (.slice (some ⟨gr,0,none⟩) 16 16) dep wh) (hg:RlC w c gr) (hMT:MT w) (hm:Cm w c n h1 h2 h3) (hn:n<17592186043000) (hK:KeysV f.toks (x::r) c.i ids h1 h2 h3) (hA:∀ a∈x::r,ScOk f.toks c.i a) (hN:Nest f.toks c.i (x::r)) (hd:depOk (x::r) dep) (hne:edO t.op=false) :
  Calls Tryz.prog 72 #[.pointer (some ⟨c.B,0,none⟩),.pointer (some ⟨c.g,c.o+c.i*21,none⟩)] w fun e w'=>e = .returned (.bool (inOk f (x::r) ids c.i x t))/\Kb [c.m1,c.m2,c.m3,c.go] w w'/\(inOk f (x::r) ids c.i x t=true->Rst w' c f (r.reverse.map (svOf f.toks)) x r t (.slice (some ⟨gr,0,none⟩) 16 16) dep wh n (if ptO t.op then ids++[t.id] else ids)):=by
 have hx:=hA x (List.mem_cons_self ..)
 have hr:=nest_at hN hA
 have hbl:∀ W,Below w.heap.size w W->Ct W c f (r.reverse.map (svOf f.toks)) (svOf f.toks x) x.tk t (.slice (some ⟨gr,0,none⟩) 16 16) dep wh:=fun W hW=>h.below hW
 have hml:∀ W,Below w.heap.size w W->Cm W c n h1 h2 h3:=fun W hW=>hm.below hW
 unfold inOk
 rw[hne]
 simp only[Bool.false_eq_true,if_false]
 by_cases hmay:mayB f.toks x t.op=true
 rotate_left
 ·have hmay:mayB f.toks x t.op=false:=by simpa using hmay
  rw[hmay]
  simp only[Bool.false_and]
  obtain⟨_,_,pc,cc,e0,hgH,hT,hU,hUc,kT⟩:=h.tl.at h.ht
  cases e0
  refine(takes_no c.B c.g (c.o+c.i*21) t.op w hT.c0 h.lg (fun W hW=>?_)).mono (fun e w' hh=>⟨hh.1,Kb.of_below hh.2,fun e=>by cases e⟩)
  have hC:=hbl W hW
  have c2:=mayStand_any c.B c.gf c.go (r.reverse.map (svOf f.toks)).length c.cap c.g c.o c.m1 c.m2 c.m3 (c.i:Int) t.op x.tk.op _ dep wh (svOf f.toks x) W hC.ck hC.op.last hC.op.lt hC.lg (by obtain⟨_,_,px,cx,e1,_,hXk,_⟩:=hC.tl.at hC.hx;cases e1;exact hXk.c0) h.ln hx.beg
  rw[show mayP x.tk.op (svOf f.toks x).last (svOf f.toks x).cnt t.op=mayB f.toks x t.op from may_eq f.toks x t.op,hmay] at c2
  exact c2
 ·have hty:=may_typ hmay hne hx.beg
  have hop:=may_op hmay hx.beg
  have hN2:=hN.2.1
  have pBeg:bgO t.op=true->∀ W,Below w.heap.size w W->Calls Tryz.prog 96 #[.pointer (some ⟨c.B,0,none⟩),.pointer (some ⟨c.g,c.o+c.i*21,none⟩)] W fun r w'=>r = .returned (.bool (pairB f.toks c.i t))/\Below W.heap.size W w':=fun hb W hW =>
   isPaired_beg c.B c.gf c.g c.o c.i c.H c.m1 c.m2 c.m3 c.cp _ _ dep wh f t W (hbl W hW).ck (hbl W hW).fm (hbl W hW).fl (hbl W hW).tl (hbl W hW).sz h.ht hb
  have pOwn:(t.op=14\/t.op=15)->∀ W,Below w.heap.size w W->Calls Tryz.prog 96 #[.pointer (some ⟨c.B,0,none⟩),.pointer (some ⟨c.g,c.o+c.i*21,none⟩)] W fun r w'=>r = .returned (.bool (decide (t.pair=(c.i:Int))))/\Below W.heap.size W w':=fun hb W hW=>by
   have:=isPaired_own c f (r.reverse.map (svOf f.toks)) (svOf f.toks x) x.tk t _ dep wh W (hbl W hW) hb
   rwa [beqd] at this
  have hTO:tyO t.op=true->x.tk.op=2\/x.tk.op=8\/((x.tk.op=10\/x.tk.op=12)/\x.kids=[]/\c.i=x.at_+1):=fun e=>by
   have e:=decT e
   rcases hty with ⟨_,hp,_⟩|⟨h0,_⟩|⟨h0,_⟩|⟨h0,⟨h3,_⟩|⟨_,h4⟩⟩
   ·unfold ptO at hp;have:=decT hp;omega
   ·exact .inl h0
   ·exact .inr (.inl h0)
   ·refine .inr (.inr ⟨h0,h3,?_⟩)
    have h5:=(hN2 h0).1
    rw[h3] at h5
    have h6:=congrArg List.length h5
    rw[List.length_range'] at h6
    have:=hx.lt
    simp at h6
    omega
   ·omega
  have hPT:ptO t.op=true->x.tk.op=0\/x.tk.op=4:=fun e=>by
   have e:=decT e
   rcases hty with ⟨h0,_⟩|⟨_,_,h3⟩|⟨_,h3⟩|⟨_,⟨_,h4⟩|⟨_,h4⟩⟩
   ·exact h0
   ·unfold tyO at h3;have:=decT h3;omega
   ·unfold tyO at h3;have:=decT h3;omega
   ·omega
   ·omega
  have hcases:t.op=2\/t.op=4\/t.op=6\/t.op=8\/t.op=10\/t.op=12\/t.op=14\/t.op=15:=by
   rcases hty with ⟨_,h3,_⟩|⟨_,_,h3⟩|⟨_,h3⟩|⟨_,⟨_,h4⟩|⟨_,h4⟩⟩
   ·unfold ptO at h3;have:=decT h3;omega
   ·unfold tyO at h3;have:=decT h3;omega
   ·unfold tyO at h3;have:=decT h3;omega
   ·omega
   ·omega
  unfold rulB
  rcases hcases with e|e|e|e|e|e|e|e
  ·rw[if_pos (show bgO t.op=true by rw[e];decide),if_pos (show ptO t.op=true by rw[e];decide),if_pos e]
   exact takes_one w h hg hMT hx 2 _ _ _ _ e (by decide) hne rfl ent_isField (pBeg (by rw[e];decide)) (fun _ _ _ hp W hW=>rule_fld W (hbl W hW) (hml W hW) hn hK hx hr (hPT (by rw[e];decide)) e hp)
  ·rw[if_pos (show bgO t.op=true by rw[e];decide),if_pos (show ptO t.op=true by rw[e];decide),if_neg (by omega),if_pos e]
   exact takes_one w h hg hMT hx 4 _ _ _ _ e (by decide) hne rfl ent_isGroup (pBeg (by rw[e];decide)) (fun _ _ _ hp W hW=>rule_grp W (hbl W hW) (hml W hW) hn hK hx hr (hPT (by rw[e];decide)) e hd)
  ·rw[if_pos (show bgO t.op=true by rw[e];decide),if_pos (show ptO t.op=true by rw[e];decide),if_neg (by omega),if_neg (by omega),if_pos e]
   exact takes_one w h hg hMT hx 6 _ _ _ _ e (by decide) hne rfl ent_isData (pBeg (by rw[e];decide)) (fun _ _ _ hp W hW=>rule_dat W (hbl W hW) (hml W hW) hn hK hx hr (hPT (by rw[e];decide)) e)
  ·rw[if_pos (show bgO t.op=true by rw[e];decide),if_neg (show ¬ ptO t.op=true by rw[e];decide),if_neg (by omega),if_neg (by omega),if_neg (by omega),if_pos e]
   exact takes_one w h hg hMT hx 8 _ _ _ _ e (by decide) hne rfl ent_isComposite (pBeg (by rw[e];decide)) (fun _ _ _ hp W hW=>rule_cmp W (hbl W hW) (hml W hW) hn hK hx (hTO (by rw[e];decide)) e hd)
  ·rw[if_pos (show bgO t.op=true by rw[e];decide),if_neg (show ¬ ptO t.op=true by rw[e];decide),if_neg (by omega),if_neg (by omega),if_neg (by omega),if_neg (by omega),if_pos (.inl e)]
   exact takes_one w h hg hMT hx 10 _ _ _ _ e (by decide) hne rfl ent_isPlaced (pBeg (by rw[e];decide)) (fun _ _ _ hp W hW=>rule_plc W (hbl W hW) (hml W hW) hn hK hx (hTO (by rw[e];decide)) (.inl e))
  ·rw[if_pos (show bgO t.op=true by rw[e];decide),if_neg (show ¬ ptO t.op=true by rw[e];decide),if_neg (by omega),if_neg (by omega),if_neg (by omega),if_neg (by omega),if_pos (.inr e)]
   exact takes_one w h hg hMT hx 12 _ _ _ _ e (by decide) hne rfl ent_isPlaced (pBeg (by rw[e];decide)) (fun _ _ _ hp W hW=>rule_plc W (hbl W hW) (hml W hW) hn hK hx (hTO (by rw[e];decide)) (.inr e))
  ·rw[if_neg (show ¬ bgO t.op=true by rw[e];decide),if_neg (show ¬ ptO t.op=true by rw[e];decide),if_neg (by omega),if_neg (by omega),if_neg (by omega),if_neg (by omega),if_neg (by omega),if_pos e]
   exact takes_one w h hg hMT hx 14 _ _ _ _ e (by decide) hne rfl ent_isEncoding (pOwn (.inl e)) (fun _ _ _ hp W hW=>rule_enc W (hbl W hW) (hml W hW) hn hK hx (hTO (by rw[e];decide)) e)
  ·rw[if_neg (show ¬ bgO t.op=true by rw[e];decide),if_neg (show ¬ ptO t.op=true by rw[e];decide),if_neg (by omega),if_neg (by omega),if_neg (by omega),if_neg (by omega),if_neg (by omega),if_neg (by omega)]
   exact takes_one w h hg hMT hx 15 _ _ _ _ e (by decide) hne rfl ent_isChoice (pOwn (.inr e)) (fun _ _ _ hp W hW=>rule_cho W (hbl W hW) (hml W hW) hn hK hx hr (by rcases hty with ⟨_,h3,_⟩|⟨_,_,h3⟩|⟨_,h3⟩|⟨h0,_⟩;(unfold ptO at h3;have:=decT h3;omega);(unfold tyO at h3;have:=decT h3;omega);(unfold tyO at h3;have:=decT h3;omega);exact h0) (by rcases hty with ⟨_,h3,_⟩|⟨_,_,h3⟩|⟨_,h3⟩|⟨_,⟨_,h4⟩|⟨h3,_⟩⟩;(unfold ptO at h3;have:=decT h3;omega);(unfold tyO at h3;have:=decT h3;omega);(unfold tyO at h3;have:=decT h3;omega);omega;exact h3) e)
end
section
variable {c:Cf} {f:Fm} {x:Sc} {r:List Sc} {t:Tk} {gr:Nat} {dep:Nat->Int} {wh:Bool} {n:Nat} {ids:List Int} {h1 h2 h3:Value->Prop}
theorem takes_fin (w:World) (rl:Value) (h:Ct w c f (r.reverse.map (svOf f.toks)) (svOf f.toks x) x.tk t rl dep wh) (hMT:MT w) (hx:ScOk f.toks c.i x) (hne:edO t.op=true) :
  Calls Tryz.prog 72 #[.pointer (some ⟨c.B,0,none⟩),.pointer (some ⟨c.g,c.o+c.i*21,none⟩)] w fun e w'=>e = .returned (.bool (inOk f (x::r) ids c.i x t))/\Below w.heap.size w w':=by
 obtain⟨_,_,pc,cc,e0,hgH,hT,hU,hUc,kT⟩:=h.tl.at h.ht
 cases e0
 obtain⟨q,hq,hq2⟩:∃ q:Nat,t.op=q/\q<16:=by
  unfold edO at hne
  have:=decT hne
  exact⟨t.op.toNat,by omega,by omega⟩
 have c1:=takes_end c.B c.g (c.o+c.i*21) t pc cc w hT h.lg kT.name q (mayB f.toks x t.op) ((t.pair==(x.at_:Int))&&(x.tk.pair==(c.i:Int))) hq hq2 hne hMT
  (fun W hW=>by
   have hC:=(h.below hW)
   have c2:=mayStand_any c.B c.gf c.go (r.reverse.map (svOf f.toks)).length c.cap c.g c.o c.m1 c.m2 c.m3 (c.i:Int) (q:Int) x.tk.op _ dep wh (svOf f.toks x) W hC.ck hC.op.last hC.op.lt hC.lg (by obtain⟨_,_,px,cx,e1,_,hXk,_⟩:=hC.tl.at hC.hx;cases e1;exact hXk.c0) h.ln hx.beg
   rw[show mayP x.tk.op (svOf f.toks x).last (svOf f.toks x).cnt (q:Int)=mayB f.toks x (q:Int) from may_eq f.toks x q,<- hq] at c2
   rw[<- hq]
   exact c2)
  (fun W hW=>isPaired_end c f (r.reverse.map (svOf f.toks)) (svOf f.toks x) x.tk t rl dep wh W (h.below hW) hne)
 refine c1.mono ?_
 rintro _ w' ⟨rfl,hb⟩
 refine⟨?_,hb⟩
 unfold inOk
 rw[hne,beqd,beqd]
 simp only[if_true]
theorem takes_top (w:World) (p:Option Addr) (cap:Nat) (hC:CkC w c.B c.gf (.slice p 0 cap) (c.i:Int) (.slice (some ⟨gr,0,none⟩) 16 16) c.m1 c.m2 c.m3 dep wh) (hF:FmC w c.gf 0 f (some ⟨c.g,c.o,none⟩) c.cp) (hfl:c.gf<w.heap.size) (tl:TkL w (some ⟨c.g,c.o,none⟩) c.H f.toks) (hs:c.H<=w.heap.size) (ht:f.toks[c.i]?=some t) (kt:KT w) (hg:RlC w c gr) (hMT:MT w) (hwh:wh=decide (c.i≠0)) (s:St) (h0:s.open_=[]) :
  Calls Tryz.prog 72 #[.pointer (some ⟨c.B,0,none⟩),.pointer (some ⟨c.g,c.o+c.i*21,none⟩)] w fun e w'=>e = .returned (.bool (okZ f s c.i t))/\Below w.heap.size w w':=by
 obtain⟨_,_,pc,cc,e0,hgH,hT,hU,hUc,kT⟩:=tl.at ht
 cases e0
 have hlg:c.g<w.heap.size:=Nat.lt_of_lt_of_le hgH hs
 have hCb:∀ W,Below w.heap.size w W->CkC W c.B c.gf (.slice p 0 cap) (c.i:Int) (.slice (some ⟨gr,0,none⟩) 16 16) c.m1 c.m2 c.m3 dep wh:=fun W hW=>hC.same hW.size (hW.block _ hC.lt)
 have hok:okZ f s c.i t=(decide (c.i=0)&&decide (t.op=0)&&plainB t&&symbolB t.name&&pairB f.toks c.i t&&msgB f t):=by
  unfold okZ
  rw[h0]
 rw[hok]
 by_cases hm:c.i=0/\t.op=0
 ·have hq:t.op=((0:Nat):Int):=hm.2
  have hne:edO t.op=false:=by rw[hm.2];decide
  have hbg:bgO t.op=true:=by rw[hm.2];decide
  have c1:=takes_rule [] c.B c.g (c.o+c.i*21) t pc cc w hT hlg kT.name hC.lt List.not_mem_nil List.not_mem_nil 0 gr 85 true (msgB f t) (pairB f.toks c.i t) (fun W w'=>Below W.heap.size W w') hq (by decide) hne hC.c3 hg.lt List.not_mem_nil (by rw[hg.c];rfl) ent_isMessage hMT
   (fun W hW=>by
    have c2:=mayStand_none c.B c.gf cap c.m1 c.m2 c.m3 p (c.i:Int) ((0:Nat):Int) _ dep wh W (hCb W hW)
    rw[hwh,show (decide (((0:Nat):Int)=0) && !decide (c.i≠0))=true by simp[hm.1]] at c2
    exact c2)
   (fun W hW=>isPaired_beg c.B c.gf c.g c.o c.i c.H c.m1 c.m2 c.m3 c.cp _ _ dep wh f t W (hCb W hW) (hF.below hfl hW) (Nat.lt_of_lt_of_le hfl hW.size) (tl.below (hW.mono hs)) (Nat.le_trans hs hW.size) ht hbg)
   (fun _ _ _ _ W hW=>isMessage_any c.B c.gf c.g (c.o+c.i*21) c.m1 c.m2 c.m3 _ _ (c.i:Int) dep wh f _ _ t pc cc W (hCb W hW) (hF.below hfl hW) (Nat.lt_of_lt_of_le hfl hW.size) (hT.below hlg hW) (Nat.lt_of_lt_of_le hlg hW.size) (kt.up hW))
   (fun _ _ h=>Kb.of_below h)
  refine c1.mono ?_
  rintro _ w' ⟨rfl,hL⟩
  refine⟨by simp[hm],?_⟩
  exact⟨hL.kb.os,hL.kb.tape,hL.kb.output,hL.kb.size,fun k hk=>hL.kb.block k hk List.not_mem_nil⟩
 ·refine(takes_no c.B c.g (c.o+c.i*21) t.op w hT.c0 hlg (fun W hW=>?_)).mono (fun e w' hh=>⟨?_,hh.2⟩)
  ·have c2:=mayStand_none c.B c.gf cap c.m1 c.m2 c.m3 p (c.i:Int) t.op _ dep wh W (hCb W hW)
   rw[hwh,show (decide (t.op=0) && !decide (c.i≠0))=false by
    by_cases e:t.op=0
    ·by_cases e2:c.i=0
     ·exact absurd ⟨e2,e⟩ hm
     ·simp[e2]
    ·simp[e]] at c2
   exact c2
  ·rw[hh.1]
   congr 2
   by_cases e:t.op=0
   ·by_cases e2:c.i=0
    ·exact absurd ⟨e2,e⟩ hm
    ·simp[e2]
   ·simp[e]
end
end Go.Proofs.YtbhmciieiilcfaaGreatDoor

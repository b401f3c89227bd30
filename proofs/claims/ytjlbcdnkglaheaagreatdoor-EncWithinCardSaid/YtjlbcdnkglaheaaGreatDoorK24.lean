import Derived.Test.YtjlbcdnkglaheaaGreatDoorK08
namespace Go.Proofs.YtjlbcdnkglaheaaGreatDoor
set_option maxRecDepth 1000000
set_option maxHeartbeats 16000000
open Go.ChangeShapes Go.WideShapes Go.ChangeAt Go.RowKit Go.Shelf Go.Maps
theorem ent_push:∀ ag w,(callFunc 94 ag).run Tryz.prog w = .ok (.enter 94 ag) w:=enters_of Tryz.func94 (by kernel_rfl) rfl
theorem pass_first (B gf g o k m1 m2 m3:Nat) (rl:Value) (dep:Nat->Int) (wh:Bool) (w:World) (hH:CkH w B gf (.slice none 0 0) (k:Int) rl m1 m2 m3 dep wh) (q:Nat) (sn off:Int) (t0:w.cell? ⟨g,o+k*21,none⟩=some (.int .i64 (q:Int))) (t3:w.cell? ⟨g,o+k*21+3,none⟩=some (.int .i64 off)) (t5:w.cell? ⟨g,o+k*21+5,none⟩=some (.int .i64 sn)) (hg:g<w.heap.size) (hgB:g≠B) (hq:q<16) (he:edO (q:Int)=false) (hb:bgO (q:Int)=true) (hd:-1000000000000<=dep q/\dep q<=1000000000000) :
  Calls Tryz.prog 52 #[.pointer (some ⟨B,0,none⟩),.pointer (some ⟨g,o+k*21,none⟩)] w fun r w'=>r = .returned (.tuple #[])/\∃ go' cap',CkH w' B gf (.slice (some ⟨go',0,none⟩) 1 cap') (k:Int) rl m1 m2 m3 (fun j=>if j=q then dep q+1 else dep j) wh/\OpR w' g o go' cap' [⟨k,0,0,sn,sn,off,0⟩]/\w.heap.size<=go'/\Kb [B] w w':=by
 have cE:=fun W=>ends_any (q:Int) W (by omega)
 have cB:=fun W=>begins_any (q:Int) W (by omega)
 rw[he] at cE
 rw[hb] at cB
 have cI:=isEmpty_any B 0 0 none w (hH.cell 0)
 have hq0:(0:Int)<=(q:Int):=by omega
 have hq1:(q:Int)<16:=by omega
 have hs:IntKind.i64.wrap (dep q+1)=dep q+1:=by rw[IntKind.wrap_i64];omega
 have y4:=hH.ck.cd q hq
 have yf:=hH.frz (4+q)
 clear he hb
 replace hH:=Hid.mk hH
 go_enter Tryz.func52,Tryz.ntmps52
 go_wp2_with (first|(go_at_call 89;refine(cE _).mono ?_;rintro _ wq ⟨rfl,e⟩;obtain rfl:w=wq:=e.symm)|(go_at_call 93;refine(cB _).mono ?_;rintro _ wq ⟨rfl,e⟩;obtain rfl:w=wq:=e.symm)|(go_at_call 91;refine cI.mono ?_;rintro _ wq ⟨rfl,e⟩;obtain rfl:w=wq:=e.symm))
 go_region
 have h2:=(hH.out.setDep q hq (dep q+1)).same (w':=(w.setCell ⟨B,4+q,none⟩ (.int .i64 (dep q+1))).drew) rfl
 have k2:Kb [B] w (w.setCell ⟨B,4+q,none⟩ (.int .i64 (dep q+1))).drew:=((Kb.refl _ _).set (List.mem_singleton.2 rfl) _).drew
 generalize (w.setCell ⟨B,4+q,none⟩ (.int .i64 (dep q+1))).drew=w2 at h2 k2 ⊢
 have hgE:g∉[B]:=by simpa using hgB
 have x0:w2.cell? ⟨g,o+k*21,none⟩=some (.int .i64 (q:Int)):=(k2.cell hg hgE).trans t0
 have x3:w2.cell? ⟨g,o+k*21+3,none⟩=some (.int .i64 off):=(k2.cell hg hgE).trans t3
 have x5:w2.cell? ⟨g,o+k*21+5,none⟩=some (.int .i64 sn):=(k2.cell hg hgE).trans t5
 have z2:=h2.ck.c2
 have cU:∀ W,Below w2.heap.size w2 W->Calls Tryz.prog 94 #[.pointer (some ⟨B,0,none⟩),.agg #[.pointer (some ⟨g,o+k*21,none⟩),.int .i64 (k:Int),.int .i64 0,.int .i64 0,.int .i64 sn,.int .i64 sn,.int .i64 off,.int .i64 0]] W fun r w'=>∃ v,r = .returned v/\(v = .tuple #[]/\∃ go' cap',CkH w' B gf (.slice (some ⟨go',0,none⟩) 1 cap') (k:Int) rl m1 m2 m3 (fun j=>if j=q then dep q+1 else dep j) wh/\OpR w' g o go' cap' [⟨k,0,0,sn,sn,off,0⟩]/\w.heap.size<=go'/\Kb [B] w w'):=fun W hW=>by
  refine(push_any B gf g o w.heap.size m1 m2 m3 (k:Int) rl (.slice none 0 0) _ wh [] ⟨k,0,0,sn,sn,off,0⟩ W (h2.same (hW.block B h2.lt)) ⟨rfl,.inl ⟨rfl,rfl⟩⟩ (by simp) (Nat.le_trans k2.size hW.size) (by simp[Value.ownBlock])).mono ?_
  rintro _ w' ⟨rfl,go',cap',u1,u2,u3,_,u5⟩
  exact⟨_,rfl,rfl,go',cap',u1,u2,u3,(k2.trans (Kb.of_below hW)).trans u5⟩
 clear t0 t3 t5 y4 yf hH cE cB cI hs
 replace h2:=Hid.mk h2
 replace k2:=Hid.mk k2
 go_wp2_with fail
 go_region_law (refine xstep2 ?_ _ (.tmp 80) (.tmp 98) #[127,164] ?_ ent_push _ _ ?_ ?_ _ (cU _ (by first|exact Below.refl _ _|exact drw (Below.refl _ _))) ?_;rfl;rfl;rfl;rfl;rintro _ w3 ⟨rfl,u⟩;replace u:=Hid.mk u)
 all_goals
  go_wp2_with fail
  exact bodyPost_end (v:=.tuple #[]) (results_none (by rfl) _ _ _) rfl ⟨rfl,u.out⟩
theorem pass_leaf (B gf go cap g o ot m1 m2 m3:Nat) (i:Int) (rl:Value) (dep:Nat->Int) (wh:Bool) (L:List Sv) (x:Sv) (w:World) (hH:CkH w B gf (.slice (some ⟨go,0,none⟩) (L.length+1) cap) i rl m1 m2 m3 dep wh) (hO:OpR w g o go cap (L++[x])) (hn:L.length<1000000000000) (q:Nat) (t0:w.cell? ⟨g,ot,none⟩=some (.int .i64 (q:Int))) (hg:g<w.heap.size) (hgo:g≠go) (hB:go≠B) (hq:q<16) (he:edO (q:Int)=false) (hb:bgO (q:Int)=false) (hc:0<=x.cnt/\x.cnt<=1000000000000) :
  Calls Tryz.prog 52 #[.pointer (some ⟨B,0,none⟩),.pointer (some ⟨g,ot,none⟩)] w fun r w'=>r = .returned (.tuple #[])/\CkH w' B gf (.slice (some ⟨go,0,none⟩) (L.length+1) cap) i rl m1 m2 m3 dep wh/\OpR w' g o go cap (L++[{ x with cnt:=x.cnt+1,last:=(q:Int) }])/\Kb [go] w w':=by
 have cE:=fun W=>ends_any (q:Int) W (by omega)
 have cB:=fun W=>begins_any (q:Int) W (by omega)
 rw[he] at cE
 rw[hb] at cB
 have hs:IntKind.i64.wrap (x.cnt+1)=x.cnt+1:=by rw[IntKind.wrap_i64];omega
 have cI:=isEmpty_any B (L.length+1) cap (some ⟨go,0,none⟩) w (hH.cell 0)
 rw[decide_eq_false (show ¬ L.length+1=0 by omega)] at cI
 have cT:=top_any B go L.length cap w (hH.cell 0) hn
 have hgE:g∉[go]:=by simpa using hgo
 clear he hb
 replace hH:=Hid.mk hH
 replace hO:=Hid.mk hO
 go_enter Tryz.func52,Tryz.ntmps52
 go_wp2_with (first|(go_at_call 89;refine(cE _).mono ?_;rintro _ wq ⟨rfl,e⟩;obtain rfl:w=wq:=e.symm)|(go_at_call 91;refine cI.mono ?_;rintro _ wq ⟨rfl,e⟩;obtain rfl:w=wq:=e.symm)|(go_at_call 92;refine cT.mono ?_;rintro _ w1 ⟨rfl,b1⟩;have o1:=hO.out.same (b1.block go hO.out.lt);have y2:=o1.last.c2;have yf:=o1.frz (L.length*8+2)))
 have h1:=hH.out.same (b1.block B hH.out.lt)
 have o2:OpR (w1.setCell ⟨go,L.length*8+2,none⟩ (.int .i64 (x.cnt+1))) g o go cap (L++[{ x with cnt:=x.cnt+1 }]):=o1.set (j:=2) (by decide) rfl
 have h2:=h1.same (set_oth (w:=w1) (b:=go) (o:=L.length*8+2) (v:=.int .i64 (x.cnt+1)) hB)
 have k2:Kb [go] w (w1.setCell ⟨go,L.length*8+2,none⟩ (.int .i64 (x.cnt+1))):=(Kb.of_below b1).set (List.mem_singleton.2 rfl) _
 generalize w1.setCell ⟨go,L.length*8+2,none⟩ (.int .i64 (x.cnt+1))=w2 at o2 h2 k2 ⊢
 have x0:w2.cell? ⟨g,ot,none⟩=some (.int .i64 (q:Int)):=(k2.cell hg hgE).trans t0
 have cT2:∀ W,Below w2.heap.size w2 W->Calls Tryz.prog 92 #[.pointer (some ⟨B,0,none⟩)] W fun r w'=>∃ v,r = .returned v/\(v = .pointer (some ⟨go,L.length*8,none⟩)/\OpR w' g o go cap (L++[{ x with cnt:=x.cnt+1 }])/\CkH w' B gf (.slice (some ⟨go,0,none⟩) (L.length+1) cap) i rl m1 m2 m3 dep wh/\Kb [go] w w'):=fun W hW=>by
  refine(top_any B go L.length cap W ((h2.same (hW.block B h2.lt)).cell 0) hn).mono ?_
  rintro _ w' ⟨rfl,b⟩
  have bb:=hW.trans (b.mono hW.size)
  exact⟨_,rfl,rfl,o2.same (bb.block go o2.lt),h2.same (bb.block B h2.lt),k2.trans (Kb.of_below bb)⟩
 clear y2 yf o1 b1 h1 cE cI cT hs
 replace o2:=Hid.mk o2
 replace h2:=Hid.mk h2
 replace k2:=Hid.mk k2
 go_region_law (refine xstep1 ?_ _ (.tmp 52) #[127] ?_ ent_top _ ?_ _ (cT2 _ (by first|exact Below.refl _ _|exact drw (Below.refl _ _))) ?_;rfl;rfl;rfl;rintro _ w3 ⟨rfl,o3,h3,k3⟩;have z0:w3.cell? ⟨g,ot,none⟩=some (.int .i64 (q:Int)):=(k3.cell hg hgE).trans t0;have z3:=o3.last.c3;have zf:=o3.frz (L.length*8+3);replace o3:=Hid.mk o3;replace h3:=Hid.mk h3;replace k3:=Hid.mk k3)
 all_goals
  have o5:OpR (w3.setCell ⟨go,L.length*8+3,none⟩ (.int .i64 (q:Int))) g o go cap (L++[{ x with cnt:=x.cnt+1,last:=(q:Int) }]):=o3.out.set (j:=3) (by decide) rfl
  have h5:=h3.out.same (set_oth (w:=w3) (b:=go) (o:=L.length*8+3) (v:=.int .i64 (q:Int)) hB)
  have k5:Kb [go] w (w3.setCell ⟨go,L.length*8+3,none⟩ (.int .i64 (q:Int))):=k3.out.set (List.mem_singleton.2 rfl) _
  clear z0 z3 zf o3 h3 k3 x0
  generalize w3.setCell ⟨go,L.length*8+3,none⟩ (.int .i64 (q:Int))=w5 at o5 h5 k5 ⊢
  have z0:w5.cell? ⟨g,ot,none⟩=some (.int .i64 (q:Int)):=(k5.cell hg hgE).trans t0
  replace o5:=Hid.mk o5
  replace h5:=Hid.mk h5
  replace k5:=Hid.mk k5
  go_wp2_with (go_at_call 93;refine(cB _).mono ?_;rintro _ wq ⟨rfl,e⟩;obtain rfl:w5=wq:=e.symm)
  exact bodyPost_end (v:=.tuple #[]) (results_none (by rfl) _ _ _) rfl ⟨rfl,h5.out,o5.out,k5.out⟩
end Go.Proofs.YtjlbcdnkglaheaaGreatDoor

import Derived.Test.YtbhmciieiilcfaaGreatDoorK10
namespace Go.Proofs.YtbhmciieiilcfaaGreatDoor
set_option maxRecDepth 1000000
set_option maxHeartbeats 16000000
open Go.ChangeShapes Go.WideShapes Go.ChangeAt Go.RowKit Go.Shelf Go.Maps
theorem pass_leaf (B gf go cap g o ot m1 m2 m3:Nat) (i:Int) (rl:Value) (dep:Nat->Int) (wh:Bool) (L:List Sv) (x:Sv) (w:World) (hH:CkH w B gf (.slice (some ⟨go,0,none⟩) (L.length+1) cap) i rl m1 m2 m3 dep wh) (hO:OpR w g o go cap (L++[x])) (hn:L.length<1000000000000) (q:Nat) (t0:w.cell? ⟨g,ot,none⟩=some (.int .i64 (q:Int))) (hg:g<w.heap.size) (hgo:g≠go) (hB:go≠B) (hq:q<16) (he:edO (q:Int)=false) (hb:bgO (q:Int)=false) (hc:0<=x.cnt/\x.cnt<=1000000000000) :
  Calls Tryz.prog 73 #[.pointer (some ⟨B,0,none⟩),.pointer (some ⟨g,ot,none⟩)] w fun r w'=>r = .returned (.tuple #[])/\CkH w' B gf (.slice (some ⟨go,0,none⟩) (L.length+1) cap) i rl m1 m2 m3 dep wh/\OpR w' g o go cap (L++[{ x with cnt:=x.cnt+1,last:=(q:Int) }])/\Kb [go] w w':=by
 have cE:=fun W=>ends_any (q:Int) W (by omega)
 have cB:=fun W=>begins_any (q:Int) W (by omega)
 rw[he] at cE
 rw[hb] at cB
 have hs:IntKind.i64.wrap (x.cnt+1)=x.cnt+1:=by rw[IntKind.wrap_i64];omega
 have cI:=isEmpty_any B (L.length+1) cap (some ⟨go,0,none⟩) w (hH.cell 0)
 rw[decide_eq_false (show ¬ L.length+1=0 by omega)] at cI
 have cT:=top_any B go L.length cap w (hH.cell 0) hn
 have hgE:g∉[go]:=by simpa using hgo
 clear he hb
 replace hH:=Hid.mk hH
 replace hO:=Hid.mk hO
 go_enter Tryz.func73,Tryz.ntmps73
 go_wp2_with (first|(go_at_call 97;refine(cE _).mono ?_;rintro _ wq ⟨rfl,e⟩;obtain rfl:w=wq:=e.symm)|(go_at_call 99;refine cI.mono ?_;rintro _ wq ⟨rfl,e⟩;obtain rfl:w=wq:=e.symm)|(go_at_call 100;refine cT.mono ?_;rintro _ w1 ⟨rfl,b1⟩;have o1:=hO.out.same (b1.block go hO.out.lt);have y2:=o1.last.c2;have yf:=o1.frz (L.length*8+2)))
 have h1:=hH.out.same (b1.block B hH.out.lt)
 have o2:OpR (w1.setCell ⟨go,L.length*8+2,none⟩ (.int .i64 (x.cnt+1))) g o go cap (L++[{ x with cnt:=x.cnt+1 }]):=o1.set (j:=2) (by decide) rfl
 have h2:=h1.same (set_oth (w:=w1) (b:=go) (o:=L.length*8+2) (v:=.int .i64 (x.cnt+1)) hB)
 have k2:Kb [go] w (w1.setCell ⟨go,L.length*8+2,none⟩ (.int .i64 (x.cnt+1))):=(Kb.of_below b1).set (List.mem_singleton.2 rfl) _
 generalize w1.setCell ⟨go,L.length*8+2,none⟩ (.int .i64 (x.cnt+1))=w2 at o2 h2 k2 ⊢
 have x0:w2.cell? ⟨g,ot,none⟩=some (.int .i64 (q:Int)):=(k2.cell hg hgE).trans t0
 have cT2:∀ W,Below w2.heap.size w2 W->Calls Tryz.prog 100 #[.pointer (some ⟨B,0,none⟩)] W fun r w'=>∃ v,r = .returned v/\(v = .pointer (some ⟨go,L.length*8,none⟩)/\OpR w' g o go cap (L++[{ x with cnt:=x.cnt+1 }])/\CkH w' B gf (.slice (some ⟨go,0,none⟩) (L.length+1) cap) i rl m1 m2 m3 dep wh/\Kb [go] w w'):=fun W hW=>by
  refine(top_any B go L.length cap W ((h2.same (hW.block B h2.lt)).cell 0) hn).mono ?_
  rintro _ w' ⟨rfl,b⟩
  have bb:=hW.trans (b.mono hW.size)
  exact⟨_,rfl,rfl,o2.same (bb.block go o2.lt),h2.same (bb.block B h2.lt),k2.trans (Kb.of_below bb)⟩
 clear y2 yf o1 b1 h1 cE cI cT hs
 replace o2:=Hid.mk o2
 replace h2:=Hid.mk h2
 replace k2:=Hid.mk k2
 go_region_law (refine xstep1 ?_ _ (.tmp 52) #[127] ?_ ent_top _ ?_ _ (cT2 _ (by first|exact Below.refl _ _|exact drw (Below.refl _ _))) ?_;rfl;rfl;rfl;rintro _ w3 ⟨rfl,o3,h3,k3⟩;have z0:w3.cell? ⟨g,ot,none⟩=some (.int .i64 (q:Int)):=(k3.cell hg hgE).trans t0;have z3:=o3.last.c3;have zf:=o3.frz (L.length*8+3);replace o3:=Hid.mk o3;replace h3:=Hid.mk h3;replace k3:=Hid.mk k3)
 all_goals
  have o5:OpR (w3.setCell ⟨go,L.length*8+3,none⟩ (.int .i64 (q:Int))) g o go cap (L++[{ x with cnt:=x.cnt+1,last:=(q:Int) }]):=o3.out.set (j:=3) (by decide) rfl
  have h5:=h3.out.same (set_oth (w:=w3) (b:=go) (o:=L.length*8+3) (v:=.int .i64 (q:Int)) hB)
  have k5:Kb [go] w (w3.setCell ⟨go,L.length*8+3,none⟩ (.int .i64 (q:Int))):=k3.out.set (List.mem_singleton.2 rfl) _
  clear z0 z3 zf o3 h3 k3 x0
  generalize w3.setCell ⟨go,L.length*8+3,none⟩ (.int .i64 (q:Int))=w5 at o5 h5 k5 ⊢
  have z0:w5.cell? ⟨g,ot,none⟩=some (.int .i64 (q:Int)):=(k5.cell hg hgE).trans t0
  replace o5:=Hid.mk o5
  replace h5:=Hid.mk h5
  replace k5:=Hid.mk k5
  go_wp2_with (go_at_call 101;refine(cB _).mono ?_;rintro _ wq ⟨rfl,e⟩;obtain rfl:w5=wq:=e.symm)
  exact bodyPost_end (v:=.tuple #[]) (results_none (by rfl) _ _ _) rfl ⟨rfl,h5.out,o5.out,k5.out⟩
end Go.Proofs.YtbhmciieiilcfaaGreatDoor

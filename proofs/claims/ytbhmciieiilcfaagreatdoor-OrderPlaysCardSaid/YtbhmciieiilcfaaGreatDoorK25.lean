import Derived.Test.YtbhmciieiilcfaaGreatDoorK10
namespace Go.Proofs.YtbhmciieiilcfaaGreatDoor
set_option maxRecDepth 1000000
set_option maxHeartbeats 16000000
open Go.ChangeShapes Go.WideShapes Go.ChangeAt Go.RowKit Go.Shelf Go.Maps
theorem ent_push2:∀ ag w,(callFunc 102 ag).run Tryz.prog w = .ok (.enter 102 ag) w:=enters_of Tryz.func102 (by kernel_rfl) rfl
theorem pass_open (B gf go cap g o k H m1 m2 m3:Nat) (rl:Value) (dep:Nat->Int) (wh:Bool) (L:List Sv) (x:Sv) (w:World) (hH:CkH w B gf (.slice (some ⟨go,0,none⟩) (L.length+1) cap) (k:Int) rl m1 m2 m3 dep wh) (hO:OpR w g o go cap (L++[x])) (hn:L.length<900000000000) (q:Nat) (sn off:Int) (t0:w.cell? ⟨g,o+k*21,none⟩=some (.int .i64 (q:Int))) (t3:w.cell? ⟨g,o+k*21+3,none⟩=some (.int .i64 off)) (t5:w.cell? ⟨g,o+k*21+5,none⟩=some (.int .i64 sn)) (hg:g<w.heap.size) (hgo:g≠go) (hgB:g≠B) (hB:go≠B) (hHg:H<=go) (hq:q<16) (he:edO (q:Int)=false) (hb:bgO (q:Int)=true) (hc:0<=x.cnt/\x.cnt<=1000000000000) (hd:-1000000000000<=dep q/\dep q<=1000000000000) :
  Calls Tryz.prog 73 #[.pointer (some ⟨B,0,none⟩),.pointer (some ⟨g,o+k*21,none⟩)] w fun r w'=>r = .returned (.tuple #[])/\∃ go' cap',CkH w' B gf (.slice (some ⟨go',0,none⟩) (L.length+2) cap') (k:Int) rl m1 m2 m3 (fun j=>if j=q then dep q+1 else dep j) wh/\OpR w' g o go' cap' (L++[{ x with cnt:=x.cnt+1,last:=(q:Int) }]++[⟨k,0,0,sn,sn,off,0⟩])/\H<=go'/\(go'=go\/w.heap.size<=go')/\Kb [B,go] w w':=by
 have cE:=fun W=>ends_any (q:Int) W (by omega)
 have cB:=fun W=>begins_any (q:Int) W (by omega)
 rw[he] at cE
 rw[hb] at cB
 have hs:IntKind.i64.wrap (x.cnt+1)=x.cnt+1:=by rw[IntKind.wrap_i64];omega
 have cI:=isEmpty_any B (L.length+1) cap (some ⟨go,0,none⟩) w (hH.cell 0)
 rw[decide_eq_false (show ¬ L.length+1=0 by omega)] at cI
 have cT:=top_any B go L.length cap w (hH.cell 0) (by omega)
 have hgE:g∉[go]:=by simpa using hgo
 clear he hb
 replace hH:=Hid.mk hH
 replace hO:=Hid.mk hO
 go_enter Tryz.func73,Tryz.ntmps73
 go_wp2_with (first|(go_at_call 97;refine(cE _).mono ?_;rintro _ wq ⟨rfl,e⟩;obtain rfl:w=wq:=e.symm)|(go_at_call 99;refine cI.mono ?_;rintro _ wq ⟨rfl,e⟩;obtain rfl:w=wq:=e.symm)|(go_at_call 100;refine cT.mono ?_;rintro _ w1 ⟨rfl,b1⟩;have o1:=hO.out.same (b1.block go hO.out.lt);have y2:=o1.last.c2;have yf:=o1.frz (L.length*8+2)))
 have h1:=hH.out.same (b1.block B hH.out.lt)
 have o2:OpR (w1.setCell ⟨go,L.length*8+2,none⟩ (.int .i64 (x.cnt+1))) g o go cap (L++[{ x with cnt:=x.cnt+1 }]):=o1.set (j:=2) (by decide) rfl
 have h2:=h1.same (set_oth (w:=w1) (b:=go) (o:=L.length*8+2) (v:=.int .i64 (x.cnt+1)) hB)
 have k2:Kb [go] w (w1.setCell ⟨go,L.length*8+2,none⟩ (.int .i64 (x.cnt+1))):=(Kb.of_below b1).set (List.mem_singleton.2 rfl) _
 generalize w1.setCell ⟨go,L.length*8+2,none⟩ (.int .i64 (x.cnt+1))=w2 at o2 h2 k2 ⊢
 have x0:w2.cell? ⟨g,o+k*21,none⟩=some (.int .i64 (q:Int)):=(k2.cell hg hgE).trans t0
 have cT2:∀ W,Below w2.heap.size w2 W->Calls Tryz.prog 100 #[.pointer (some ⟨B,0,none⟩)] W fun r w'=>r = .returned (.pointer (some ⟨go,L.length*8,none⟩))/\(OpR w' g o go cap (L++[{ x with cnt:=x.cnt+1 }])/\CkH w' B gf (.slice (some ⟨go,0,none⟩) (L.length+1) cap) (k:Int) rl m1 m2 m3 dep wh/\Kb [go] w w'):=fun W hW=>by
  refine(top_any B go L.length cap W ((h2.same (hW.block B h2.lt)).cell 0) (by omega)).mono ?_
  rintro _ w' ⟨rfl,b⟩
  have bb:=hW.trans (b.mono hW.size)
  exact⟨rfl,o2.same (bb.block go o2.lt),h2.same (bb.block B h2.lt),k2.trans (Kb.of_below bb)⟩
 have cT3:=cT2 w2.drew (drw (Below.refl _ _))
 clear cT2
 clear y2 yf o1 b1 h1 cE cI cT hs
 replace o2:=Hid.mk o2
 replace h2:=Hid.mk h2
 replace k2:=Hid.mk k2
 obtain⟨p,pK,hN,x1⟩:∃ p:World->Prop,(∀ W,Kb [go] w W->p W)/\Nonempty (CW p)/\(∀ θ:CW p,θ.w.cell? ⟨g,o+k*21,none⟩=some (.int .i64 (q:Int))):=⟨Kb [go] w,fun _ h=>h,⟨⟨_,Kb.refl _ _⟩⟩,fun θ=>(θ.h.cell hg hgE).trans t0⟩
 refine wp_region_pp p [0,1,2,4,5,6,7,3,8,9,10] (by kernel_rfl) (by kernel_rfl) (fun _ _ d _ _ h=>by cases d<;>exact h) (pK _ k2.out.drew) ?_
 simp only[List.filterMap_cons,List.filterMap_nil,List.getElem?_cons_zero,List.getElem?_cons_succ]
 repeat (first|(refine lx_one rfl ?_;(first|go_big_quiet_skip|(go_big_quiet_want;go_big_quiet_op;go_big_quiet_on));refine wpQuiet_nil ?_)|(refine lx_call1 ent_top cT3 rfl (by rfl) ?_;rintro w3 ⟨o3,h3,k3⟩;have z3:=o3.last.c3;have zf:=o3.frz (L.length*8+3);replace o3:=Hid.mk o3;replace h3:=Hid.mk h3;replace k3:=Hid.mk k3;refine⟨⟨⟨_,pK _ k3.out⟩,rfl⟩,?_⟩;simp only[pts])|(refine lx_skip (by rfl) ?_;simp only[pts]))
 refine lx_act (by rfl) (by rfl) ?_
 intro K hK
 go_simp
 refine hK _ _ ⟨⟨_,pK _ (k3.out.set (List.mem_singleton.2 rfl) _)⟩,rfl⟩ ?_
 clear hK K
 try simp only[pts]
 refine lx_done ?_
 have o5:OpR (w3.setCell ⟨go,L.length*8+3,none⟩ (.int .i64 (q:Int))) g o go cap (L++[{ x with cnt:=x.cnt+1,last:=(q:Int) }]):=o3.out.set (j:=3) (by decide) rfl
 have h5:=h3.out.same (set_oth (w:=w3) (b:=go) (o:=L.length*8+3) (v:=.int .i64 (q:Int)) hB)
 have k5:Kb [go] w (w3.setCell ⟨go,L.length*8+3,none⟩ (.int .i64 (q:Int))):=k3.out.set (List.mem_singleton.2 rfl) _
 clear z3 zf o3 h3 k3 x0 cT3 x1 hN pK o2 h2 k2
 generalize w3.setCell ⟨go,L.length*8+3,none⟩ (.int .i64 (q:Int))=w5 at o5 h5 k5 ⊢
 have z0:w5.cell? ⟨g,o+k*21,none⟩=some (.int .i64 (q:Int)):=(k5.cell hg hgE).trans t0
 have y4:=h5.ck.cd q hq
 have yf:=h5.frz (4+q)
 have hq0:(0:Int)<=(q:Int):=by omega
 have hq1:(q:Int)<16:=by omega
 have hs:IntKind.i64.wrap (dep q+1)=dep q+1:=by rw[IntKind.wrap_i64];omega
 replace o5:=Hid.mk o5
 replace h5:=Hid.mk h5
 replace k5:=Hid.mk k5
 go_wp2_with (go_at_call 101;refine(cB _).mono ?_;rintro _ wq ⟨rfl,e⟩;obtain rfl:w5=wq:=e.symm)
 go_region
 have h6:=(h5.out.setDep q hq (dep q+1)).same (w':=(w5.setCell ⟨B,4+q,none⟩ (.int .i64 (dep q+1))).drew) rfl
 have o6:OpR (w5.setCell ⟨B,4+q,none⟩ (.int .i64 (dep q+1))).drew g o go cap (L++[{ x with cnt:=x.cnt+1,last:=(q:Int) }]):=(o5.out.same (set_oth hB.symm)).same rfl
 have k6:Kb [B,go] w (w5.setCell ⟨B,4+q,none⟩ (.int .i64 (dep q+1))).drew:=((k5.out.mono (E':=[B,go]) (by simp)).set (by simp) _).drew
 generalize (w5.setCell ⟨B,4+q,none⟩ (.int .i64 (dep q+1))).drew=w6 at h6 o6 k6 ⊢
 have hgE2:g∉[B,go]:=by simp[hgB,hgo]
 have x0:w6.cell? ⟨g,o+k*21,none⟩=some (.int .i64 (q:Int)):=(k6.cell hg hgE2).trans t0
 have x3:w6.cell? ⟨g,o+k*21+3,none⟩=some (.int .i64 off):=(k6.cell hg hgE2).trans t3
 have x5:w6.cell? ⟨g,o+k*21+5,none⟩=some (.int .i64 sn):=(k6.cell hg hgE2).trans t5
 have z2:=h6.ck.c2
 have cU:∀ W,Below w6.heap.size w6 W->Calls Tryz.prog 102 #[.pointer (some ⟨B,0,none⟩),.agg #[.pointer (some ⟨g,o+k*21,none⟩),.int .i64 (k:Int),.int .i64 0,.int .i64 0,.int .i64 sn,.int .i64 sn,.int .i64 off,.int .i64 0]] W fun r w'=>∃ v,r = .returned v/\(v = .tuple #[]/\∃ go' cap',CkH w' B gf (.slice (some ⟨go',0,none⟩) (L.length+2) cap') (k:Int) rl m1 m2 m3 (fun j=>if j=q then dep q+1 else dep j) wh/\OpR w' g o go' cap' (L++[{ x with cnt:=x.cnt+1,last:=(q:Int) }]++[⟨k,0,0,sn,sn,off,0⟩])/\H<=go'/\(go'=go\/w.heap.size<=go')/\Kb [B,go] w w'):=fun W hW=>by
  have oW:=o6.same (hW.block go o6.lt)
  have e1:(L++[{ x with cnt:=x.cnt+1,last:=(q:Int) }]).length=L.length+1:=by simp
  have ow:=oW.owns hHg
  rw[e1] at ow
  refine(push_any B gf g o H m1 m2 m3 (k:Int) rl (.slice (some ⟨go,0,none⟩) (L.length+1) cap) _ wh (L++[{ x with cnt:=x.cnt+1,last:=(q:Int) }]) ⟨k,0,0,sn,sn,off,0⟩ W (h6.same (hW.block B h6.lt)) (by rw[e1];exact ow) (by rw[e1];omega) (Nat.le_of_lt (Nat.lt_of_le_of_lt hHg oW.lt)) (by simp[Value.ownBlock,hB])).mono ?_
  rintro _ w' ⟨rfl,go',cap',u1,u2,u3,u4,u5⟩
  rw[e1] at u1
  refine⟨_,rfl,rfl,go',cap',u1,u2,u3,?_,(k6.trans (Kb.of_below hW)).trans (u5.mono (by simp[Value.ownBlock]))⟩
  rcases u4 with u4|u4
  ·exact .inl (by simpa[Value.ownBlock] using u4)
  ·exact .inr (Nat.le_trans (Nat.le_trans k6.size hW.size) u4)
 clear t0 t3 t5 y4 yf cB hs o5 h5 k5 z0 hH hO
 replace h6:=Hid.mk h6
 replace k6:=Hid.mk k6
 replace o6:=Hid.mk o6
 go_wp2_with fail
 go_region_law (refine xstep2 ?_ _ (.tmp 80) (.tmp 98) #[127,149] ?_ ent_push2 _ _ ?_ ?_ _ (cU _ (by first|exact Below.refl _ _|exact drw (Below.refl _ _))) ?_;rfl;rfl;rfl;rfl;rintro _ w7 ⟨rfl,u⟩;replace u:=Hid.mk u)
 all_goals
  go_wp2_with fail
  exact bodyPost_end (v:=.tuple #[]) (results_none (by rfl) _ _ _) rfl ⟨rfl,u.out⟩
end Go.Proofs.YtbhmciieiilcfaaGreatDoor

import Derived.Test.YtbhmciieiilcfaaGreatDoorK10
namespace Go.Proofs.YtbhmciieiilcfaaGreatDoor
set_option maxRecDepth 1000000
set_option maxHeartbeats 16000000
open Go.ChangeShapes Go.WideShapes Go.ChangeAt Go.RowKit Go.Shelf Go.Maps
theorem ent_push:∀ ag w,(callFunc 102 ag).run Tryz.prog w = .ok (.enter 102 ag) w:=enters_of Tryz.func102 (by kernel_rfl) rfl
theorem pass_first (B gf g o k m1 m2 m3:Nat) (rl:Value) (dep:Nat->Int) (wh:Bool) (w:World) (hH:CkH w B gf (.slice none 0 0) (k:Int) rl m1 m2 m3 dep wh) (q:Nat) (sn off:Int) (t0:w.cell? ⟨g,o+k*21,none⟩=some (.int .i64 (q:Int))) (t3:w.cell? ⟨g,o+k*21+3,none⟩=some (.int .i64 off)) (t5:w.cell? ⟨g,o+k*21+5,none⟩=some (.int .i64 sn)) (hg:g<w.heap.size) (hgB:g≠B) (hq:q<16) (he:edO (q:Int)=false) (hb:bgO (q:Int)=true) (hd:-1000000000000<=dep q/\dep q<=1000000000000) :
  Calls Tryz.prog 73 #[.pointer (some ⟨B,0,none⟩),.pointer (some ⟨g,o+k*21,none⟩)] w fun r w'=>r = .returned (.tuple #[])/\∃ go' cap',CkH w' B gf (.slice (some ⟨go',0,none⟩) 1 cap') (k:Int) rl m1 m2 m3 (fun j=>if j=q then dep q+1 else dep j) wh/\OpR w' g o go' cap' [⟨k,0,0,sn,sn,off,0⟩]/\w.heap.size<=go'/\Kb [B] w w':=by
 have cE:=fun W=>ends_any (q:Int) W (by omega)
 have cB:=fun W=>begins_any (q:Int) W (by omega)
 rw[he] at cE
 rw[hb] at cB
 have cI:=isEmpty_any B 0 0 none w (hH.cell 0)
 have hq0:(0:Int)<=(q:Int):=by omega
 have hq1:(q:Int)<16:=by omega
 have hs:IntKind.i64.wrap (dep q+1)=dep q+1:=by rw[IntKind.wrap_i64];omega
 have y4:=hH.ck.cd q hq
 have yf:=hH.frz (4+q)
 clear he hb
 replace hH:=Hid.mk hH
 go_enter Tryz.func73,Tryz.ntmps73
 go_wp2_with (first|(go_at_call 97;refine(cE _).mono ?_;rintro _ wq ⟨rfl,e⟩;obtain rfl:w=wq:=e.symm)|(go_at_call 101;refine(cB _).mono ?_;rintro _ wq ⟨rfl,e⟩;obtain rfl:w=wq:=e.symm)|(go_at_call 99;refine cI.mono ?_;rintro _ wq ⟨rfl,e⟩;obtain rfl:w=wq:=e.symm))
 go_region
 have h2:=(hH.out.setDep q hq (dep q+1)).same (w':=(w.setCell ⟨B,4+q,none⟩ (.int .i64 (dep q+1))).drew) rfl
 have k2:Kb [B] w (w.setCell ⟨B,4+q,none⟩ (.int .i64 (dep q+1))).drew:=((Kb.refl _ _).set (List.mem_singleton.2 rfl) _).drew
 generalize (w.setCell ⟨B,4+q,none⟩ (.int .i64 (dep q+1))).drew=w2 at h2 k2 ⊢
 have hgE:g∉[B]:=by simpa using hgB
 have x0:w2.cell? ⟨g,o+k*21,none⟩=some (.int .i64 (q:Int)):=(k2.cell hg hgE).trans t0
 have x3:w2.cell? ⟨g,o+k*21+3,none⟩=some (.int .i64 off):=(k2.cell hg hgE).trans t3
 have x5:w2.cell? ⟨g,o+k*21+5,none⟩=some (.int .i64 sn):=(k2.cell hg hgE).trans t5
 have z2:=h2.ck.c2
 have cU:∀ W,Below w2.heap.size w2 W->Calls Tryz.prog 102 #[.pointer (some ⟨B,0,none⟩),.agg #[.pointer (some ⟨g,o+k*21,none⟩),.int .i64 (k:Int),.int .i64 0,.int .i64 0,.int .i64 sn,.int .i64 sn,.int .i64 off,.int .i64 0]] W fun r w'=>∃ v,r = .returned v/\(v = .tuple #[]/\∃ go' cap',CkH w' B gf (.slice (some ⟨go',0,none⟩) 1 cap') (k:Int) rl m1 m2 m3 (fun j=>if j=q then dep q+1 else dep j) wh/\OpR w' g o go' cap' [⟨k,0,0,sn,sn,off,0⟩]/\w.heap.size<=go'/\Kb [B] w w'):=fun W hW=>by
  refine(push_any B gf g o w.heap.size m1 m2 m3 (k:Int) rl (.slice none 0 0) _ wh [] ⟨k,0,0,sn,sn,off,0⟩ W (h2.same (hW.block B h2.lt)) ⟨rfl,.inl ⟨rfl,rfl⟩⟩ (by simp) (Nat.le_trans k2.size hW.size) (by simp[Value.ownBlock])).mono ?_
  rintro _ w' ⟨rfl,go',cap',u1,u2,u3,_,u5⟩
  exact⟨_,rfl,rfl,go',cap',u1,u2,u3,(k2.trans (Kb.of_below hW)).trans u5⟩
 clear t0 t3 t5 y4 yf hH cE cB cI hs
 replace h2:=Hid.mk h2
 replace k2:=Hid.mk k2
 go_wp2_with fail
 go_region_law (refine xstep2 ?_ _ (.tmp 80) (.tmp 98) #[127,149] ?_ ent_push _ _ ?_ ?_ _ (cU _ (by first|exact Below.refl _ _|exact drw (Below.refl _ _))) ?_;rfl;rfl;rfl;rfl;rintro _ w3 ⟨rfl,u⟩;replace u:=Hid.mk u)
 all_goals
  go_wp2_with fail
  exact bodyPost_end (v:=.tuple #[]) (results_none (by rfl) _ _ _) rfl ⟨rfl,u.out⟩
end Go.Proofs.YtbhmciieiilcfaaGreatDoor

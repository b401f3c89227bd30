import Derived.Test.YtbhmciieiilcfaaGreatDoorK10
namespace Go.Proofs.YtbhmciieiilcfaaGreatDoor
set_option maxRecDepth 1000000
set_option maxHeartbeats 16000000
open Go.ChangeShapes Go.WideShapes Go.ChangeAt Go.RowKit Go.Shelf Go.Maps
theorem ent_pop:∀ ag w,(callFunc 98 ag).run Tryz.prog w = .ok (.enter 98 ag) w:=enters_of Tryz.func98 (by kernel_rfl) rfl
theorem fldTk (g k:Nat) (a b c d e f h:Value) (w:World):(Instr.field 149 (.agg #[.pointer (some ⟨g,k,none⟩),a,b,c,d,e,f,h]) 0).run Tryz.prog w = .ok (.pointer (some ⟨g,k,none⟩)) w:=by kernel_rfl
theorem pass_end (B gf go n cap g o ot m1 m2 m3:Nat) (i:Int) (rl:Value) (dep:Nat->Int) (wh:Bool) (x:Sv) (w:World) (hH:CkH w B gf (.slice (some ⟨go,0,none⟩) (n+1) cap) i rl m1 m2 m3 dep wh) (hX:ScC w g o go (n*8) x) (hgo:go<w.heap.size) (hn:n<1000000000000) (hcap:n+1<=cap) (q qx:Nat) (ht:w.cell? ⟨g,ot,none⟩=some (.int .i64 (q:Int))) (hx:w.cell? ⟨g,o+x.at_*21,none⟩=some (.int .i64 (qx:Int))) (hg:g<w.heap.size) (hgB:g≠B) (hq:q<16) (hqx:qx<16) (he:edO (q:Int)=true) (hd:-1000000000000<=dep qx/\dep qx<=1000000000000) :
  Calls Tryz.prog 73 #[.pointer (some ⟨B,0,none⟩),.pointer (some ⟨g,ot,none⟩)] w fun r w'=>r = .returned (.tuple #[])/\CkH w' B gf (.slice (some ⟨go,0,none⟩) n cap) i rl m1 m2 m3 (fun k=>if k=qx then dep qx-1 else dep k) (decide (n=0))/\Kb [B] w w':=by
 have cE:=fun W=>ends_any (q:Int) W (by omega)
 rw[he] at cE
 have cP:∀ W,Below w.heap.size w W->Calls Tryz.prog 98 #[.pointer (some ⟨B,0,none⟩)] W fun r w'=>∃ v,r = .returned v/\(v = .agg #[.pointer (some ⟨g,o+x.at_*21,none⟩),.int .i64 (x.at_:Int),.int .i64 x.cnt,.int .i64 x.last,.int .i64 x.fld,.int .i64 x.row,.int .i64 x.en,.int .i64 x.cod]/\CkH w' B gf (.slice (some ⟨go,0,none⟩) n cap) i rl m1 m2 m3 dep wh/\Kb [B] w w'/\w'.cell? ⟨g,o+x.at_*21,none⟩=some (.int .i64 (qx:Int))):=fun W hW=>by
  refine(pop_any B gf go n cap g o m1 m2 m3 i rl dep wh x W (hH.same (hW.block B hH.lt)) (hX.same (hW.block go hgo)) (Nat.lt_of_lt_of_le hgo hW.size) hn hcap).mono ?_
  rintro _ w' ⟨rfl,h1,h2⟩
  have k:Kb [B] w w':=(Kb.of_below hW).trans h2
  exact⟨_,rfl,rfl,h1,k,(k.cell hg (by simpa using hgB)).trans hx⟩
 have hq0:(0:Int)<=(qx:Int):=by omega
 have hq1:(qx:Int)<16:=by omega
 have hs:IntKind.i64.wrap (dep qx-1)=dep qx-1:=by rw[IntKind.wrap_i64];omega
 have fT:=fun W=>fldTk g (o+x.at_*21) (.int .i64 (x.at_:Int)) (.int .i64 x.cnt) (.int .i64 x.last) (.int .i64 x.fld) (.int .i64 x.row) (.int .i64 x.en) (.int .i64 x.cod) W
 clear hX hx he
 replace hH:=Hid.mk hH
 go_enter Tryz.func73,Tryz.ntmps73
 go_wp2_with (go_at_call 97;refine(cE _).mono ?_;rintro _ wq ⟨rfl,e⟩;obtain rfl:w=wq:=e.symm)
 go_region_law (refine xstep1 ?_ _ (.tmp 13) #[127] ?_ ent_pop _ ?_ _ (cP _ (by first|exact Below.refl _ _|exact drw (Below.refl _ _))) ?_;rfl;rfl;rfl;rintro _ w1 ⟨rfl,h1,k1,x1⟩;have y4:=h1.ck.cd qx hqx;have yf:=h1.frz (4+qx))
 have h2:=h1.setDep qx hqx (dep qx-1)
 have k2:Kb [B] w (w1.setCell ⟨B,4+qx,none⟩ (.int .i64 (dep qx-1))):=k1.set (List.mem_singleton.2 rfl) _
 generalize w1.setCell ⟨B,4+qx,none⟩ (.int .i64 (dep qx-1))=w2 at h2 k2 ⊢
 have cI:=isEmpty_any B n cap (some ⟨go,0,none⟩) w2 (h2.cell 0)
 have z23:=h2.ck.c23
 have zf:=h2.frz 23
 clear h1 k1 x1 y4 yf cP cE fT
 replace h2:=Hid.mk h2
 replace k2:=Hid.mk k2
 go_wp2_with (go_at_call 99;refine cI.mono ?_;rintro _ wq ⟨rfl,e⟩;obtain rfl:w2=wq:=e.symm)
 refine bodyPost_ret (v:=.tuple #[]) (results_none (by rfl) _ _ _) rfl ⟨rfl,h2.out.setWh _,k2.out.set (List.mem_singleton.2 rfl) _⟩
end Go.Proofs.YtbhmciieiilcfaaGreatDoor

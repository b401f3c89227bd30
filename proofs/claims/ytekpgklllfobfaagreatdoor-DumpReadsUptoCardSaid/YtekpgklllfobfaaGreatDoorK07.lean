import Derived.Test.YtekpgklllfobfaaGreatDoorK06
namespace Go.Proofs.YtekpgklllfobfaaGreatDoor
set_option maxRecDepth 1000000
set_option maxHeartbeats 16000000
open Go.ChangeShapes Go.WideShapes Go.ChangeAt Go.RowKit Go.Shelf Go.Maps
abbrev rdO (s:ByteArray):Obj:=.cells #[.string s,.int .i64 0] 86
abbrev rxO (R:Nat):Obj:=.cells #[.pointer (some ⟨R,0,none⟩)] 84
abbrev paO (v:Value):Obj:=.cells #[v] 52
abbrev P0 (w:World) (s:ByteArray):World:=((w.alloc (paO (.slice none 0 0))).alloc (rdO s)).alloc (rxO (w.heap.size+1))
theorem p0_of (w:World) (s:ByteArray):(P0 w s).heap.size=w.heap.size+3/\(P0 w s).heap[w.heap.size]?=some (paO (.slice none 0 0))/\(P0 w s).heap[w.heap.size+2]?=some (rxO (w.heap.size+1))/\RA (P0 w s) (w.heap.size+1) s 0/\Below w.heap.size w (P0 w s):=by
 have z1:(w.alloc (paO (.slice none 0 0))).heap.size=w.heap.size+1:=World.size_alloc _ _
 have z2:((w.alloc (paO (.slice none 0 0))).alloc (rdO s)).heap.size=w.heap.size+2:=by rw[World.size_alloc,z1]
 have z3:(P0 w s).heap.size=w.heap.size+3:=by rw[World.size_alloc,z2]
 have b1:=bel1 w (paO (.slice none 0 0))
 have b2:=bel1 (w.alloc (paO (.slice none 0 0))) (rdO s)
 have b3:=bel1 ((w.alloc (paO (.slice none 0 0))).alloc (rdO s)) (rxO (w.heap.size+1))
 have h1:=heap_al w (paO (.slice none 0 0))
 have h2:=heap_al (w.alloc (paO (.slice none 0 0))) (rdO s)
 have h3:=heap_al ((w.alloc (paO (.slice none 0 0))).alloc (rdO s)) (rxO (w.heap.size+1))
 rw[z1] at h2
 rw[z2] at h3
 have k1:=(b3.block _ (by omega)).trans ((b2.block _ (by omega)).trans h1)
 have k2:=(b3.block _ (by omega)).trans h2
 exact⟨z3,k1,h3,⟨cell_at k2 0,cell_at k2 1,fun o=>frz_at k2,by omega⟩,b1.trans ((b2.mono (by omega)).trans (b3.mono (by omega)))⟩
theorem RA.alloc {w:World} {R:Nat} {s:ByteArray} {a:Nat} (h:RA w R s a) (o:Obj):RA (w.alloc o) R s a:=h.below (bel1 w o)
theorem pre_ok (w:World) (s:ByteArray) (hs:s.size<=1048576) {l:List (ByteArray×Int)} {b0:Nat} (hp:pathZ s=(some l,b0)):Calls Tryz.prog 50 #[doV (.pointer (some ⟨w.heap.size+2,0,none⟩)) (.pointer (some ⟨w.heap.size,0,none⟩))] (P0 w s) fun e w'=>∃ v,e = .returned (.int .i64 0)/\w'.heap[w.heap.size]?=some (paO v)/\Hid (StR w' (w.heap.size+1) v l/\Below w.heap.size w w'):=by
 obtain⟨z,k1,k3,ra,hb⟩:=p0_of w s
 generalize P0 w s=W at z k1 k3 ra hb
 have b4:=bel1 W (eO 0)
 have z4:(W.alloc (eO 0)).heap.size=W.heap.size+1:=World.size_alloc _ _
 refine(caught_ok _ _ W (fun w'=>∃ w1 v c,StR w1 (W.alloc (eO 0)).heap.size v l/\Rd (W.alloc (eO 0)) (w.heap.size+1) s c w1/\w'=w1.setCell ⟨w.heap.size,0,none⟩ v) ((do_ok (w.heap.size+1) (w.heap.size+2) w.heap.size s hs (W.alloc (eO 0)) (ra.alloc _) ((b4.block _ (by omega)).trans k3) ((b4.block _ (by omega)).trans k1) (by omega) hp).mono fun e w' hP=>?_)).mono fun e w' hP=>?_
 ·obtain⟨h1,w1,v,c,h2,h3,rfl⟩:=hP
  exact⟨h1,⟨w1,v,c,h2,h3,rfl⟩,(set_off (by omega)).trans ((h3.mv.but.block _ (by omega) (by omega)).trans (heap_al _ _))⟩
 ·obtain⟨_,⟨w1,v,c,h2,h3,rfl⟩,h5,rfl,rfl⟩:=hP
  have hk:w1.heap[w.heap.size]?=some (paO (.slice none 0 0)):=(h3.mv.but.block _ (by omega) (by omega)).trans ((b4.block _ (by omega)).trans k1)
  refine⟨v,rfl,(set_off (by omega)).trans (by rw[set_at hk];rfl),⟨?_,?_⟩⟩
  ·refine own_stay (own_lower h2 (by omega)) fun g hg=>?_
   have:=World.ownsRow.lt h2 g hg
   exact(set_off (by omega)).trans (set_off (by omega))
  ·have hB:Below w.heap.size w w1:=hb.trans ((b4.mono (by omega)).trans (h3.mv.but.below (by omega) (by omega)))
   exact(hB.setCell (p:=⟨w.heap.size,0,none⟩) (Nat.le_refl _) _).setCell (p:=⟨W.heap.size,0,none⟩) (by show w.heap.size<=W.heap.size;omega) _
theorem pre_no (w:World) (s:ByteArray) (hs:s.size<=1048576) {b0:Nat} (hp:pathZ s=(none,b0)):Calls Tryz.prog 50 #[doV (.pointer (some ⟨w.heap.size+2,0,none⟩)) (.pointer (some ⟨w.heap.size,0,none⟩))] (P0 w s) fun e w'=>e = .returned (.int .i64 210)/\w'.heap[w.heap.size]?=some (paO (.slice none 0 0))/\w'.heap[w.heap.size+2]?=some (rxO (w.heap.size+1))/\w'.cell? ⟨w.heap.size+1,1,none⟩=some (.int .i64 (b0:Int))/\Hid (Below w.heap.size w w'):=by
 obtain⟨z,k1,k3,ra,hb⟩:=p0_of w s
 generalize P0 w s=W at z k1 k3 ra hb
 have b4:=bel1 W (eO 0)
 have z4:(W.alloc (eO 0)).heap.size=W.heap.size+1:=World.size_alloc _ _
 refine(caught_no _ _ W (fun w'=>Rd (W.alloc (eO 0)) (w.heap.size+1) s b0 w') ((do_no (w.heap.size+1) (w.heap.size+2) w.heap.size s hs (W.alloc (eO 0)) (ra.alloc _) ((b4.block _ (by omega)).trans k3) hp).mono fun e w' hP=>?_)).mono fun e w' hP=>?_
 ·exact⟨hP.1,hP.2,(hP.2.mv.but.block _ (by omega) (by omega)).trans (heap_al _ _)⟩
 ·obtain⟨w1,h3,h5,rfl,rfl⟩:=hP
  have hB:Below w.heap.size w w1:=hb.trans ((b4.mono (by omega)).trans (h3.mv.but.below (by omega) (by omega)))
  refine⟨rfl,(set_off (by omega)).trans ((h3.mv.but.block _ (by omega) (by omega)).trans ((b4.block _ (by omega)).trans k1)),(set_off (by omega)).trans ((h3.mv.but.block _ (by omega) (by omega)).trans ((b4.block _ (by omega)).trans k3)),?_,⟨hB.setCell (p:=⟨W.heap.size,0,none⟩) (by show w.heap.size<=W.heap.size;omega) _⟩⟩
  rw[World.cell?_setCell_other _ _ _ _ (fun e=>by injection e with e;omega)]
  exact h3.ra.h1
theorem res_Path (tmps:Array Value) (b:Nat) (v:Value) (n m:Int) (h2:tmps[2]?.getD undef = .pointer (some ⟨b,0,none⟩)) (h3:tmps[3]?.getD undef = .int .i64 n) (h4:tmps[4]?.getD undef = .int .i64 m) (W:World) (hT:W.cell? ⟨b,0,none⟩=some v) :
  (results Tryz.f31 tmps).run Tryz.prog W = .ok (.tuple #[v,.int .i64 n,.int .i64 m]) W:=by
 simp[results,Tryz.results31,go_sem,h2,h3,h4,hT]
theorem str_shape {W:World} {B:Nat} {v:Value} {l:List (ByteArray×Int)} (h:StR W B v l):∃ pv cv,v = .slice pv l.length cv:=by
 rcases(show World.ownsRow _ _ _ _ _ _ _ from h).2 with ⟨e,e0⟩|⟨g,cap,cur,e,-⟩
 ·exact⟨none,0,by rw[e,e0]⟩
 ·exact⟨_,_,e⟩
theorem Path_ok (w:World) (s:ByteArray) (hs:s.size<=1048576) {l:List (ByteArray×Int)} {b0:Nat} (hp:pathZ s=(some l,b0)):Calls Tryz.prog 31 #[.string s] w fun e w'=>∃ v,e = .returned (.tuple #[v,.int .i64 0,.int .i64 0])/\StR w' w.heap.size v l/\Below w.heap.size w w':=by
 have cC:=pre_ok w s hs hp
 generalize hW:P0 w s=W at cC
 simp only[P0,paO,rdO,rxO] at hW
 go_enter Tryz.func31,Tryz.ntmps31
 go_wp2_with (go_at_call 50;refine cC.mono ?_;rintro _ w1 ⟨v,rfl,h1,hF⟩;obtain⟨pv,cv,rfl⟩:=str_shape hF.out.1;have c1:=cell_at h1 0;have f1:w1.frozen? ⟨w.heap.size,0,none⟩=false:=frz_at h1;replace c1:w1.cell? ⟨w.heap.size,0,none⟩=some (.slice pv l.length cv):=c1)
 refine bodyPost_ret (res_Path _ _ _ _ _ rfl rfl rfl _ (World.cell?_setCell_same w1 ⟨w.heap.size,0,none⟩ _ c1)) rfl ⟨_,rfl,?_,hF.out.2.setCell (p:=⟨w.heap.size,0,none⟩) (Nat.le_refl _) _⟩
 refine own_stay (own_lower hF.out.1 (by omega)) fun g hg=>set_off ?_
 have:=World.ownsRow.lt hF.out.1 g hg
 omega
theorem Path_no (w:World) (s:ByteArray) (hs:s.size<=1048576) {b0:Nat} (hp:pathZ s=(none,b0)):Calls Tryz.prog 31 #[.string s] w fun e w'=>e = .returned (.tuple #[.slice none 0 0,.int .i64 210,.int .i64 (b0:Int)])/\Below w.heap.size w w':=by
 have cC:=pre_no w s hs hp
 generalize hW:P0 w s=W at cC
 simp only[P0,paO,rdO,rxO] at hW
 go_enter Tryz.func31,Tryz.ntmps31
 go_wp2_with (go_at_call 50;refine cC.mono ?_;rintro _ w1 ⟨rfl,h1,h2,k1,hF⟩;have c1:=cell_at h1 0;have f1:w1.frozen? ⟨w.heap.size,0,none⟩=false:=frz_at h1;replace c1:w1.cell? ⟨w.heap.size,0,none⟩=some (.slice none 0 0):=c1;have x1:=cell_at h2 0;replace x1:w1.cell? ⟨w.heap.size+1+1,0,none⟩=some (.pointer (some ⟨w.heap.size+1,0,none⟩)):=x1)
 go_region
 all_goals
  go_wp2_with fail
  exact bodyPost_ret (res_Path _ _ _ _ _ rfl rfl rfl _ (World.cell?_setCell_same w1 ⟨w.heap.size,0,none⟩ _ c1)) rfl ⟨rfl,(hF.out.setCell (p:=⟨w.heap.size,0,none⟩) (Nat.le_refl _) _).drew⟩
end Go.Proofs.YtekpgklllfobfaaGreatDoor

import Derived.Test.YtekpgklllfobfaaGreatDoorK03
import Derived.Deep.DeepCutAuto
namespace Go.Proofs.YtekpgklllfobfaaGreatDoor
set_option maxRecDepth 1000000
set_option maxHeartbeats 16000000
open Go.ChangeShapes Go.WideShapes Go.ChangeAt Go.RowKit Go.Shelf
structure Ss (w w0:World) (R:Nat) (s:ByteArray) (X b:Nat) (x:ByteArray×Int) (W:World):Prop where
 rd:Rd w0 R s b W
 rb:W.heap[w.heap.size]?=some zSp
 xb:W.heap[X]?=some (spO x)
 lt:R<w.heap.size/\w.heap.size<X
section
variable {w w0:World} {R:Nat} {s:ByteArray} {X b:Nat} {x:ByteArray×Int} {W:World}
theorem Ss.call (h:Ss w w0 R s X b x W) {c:Nat} {W':World} (k:Rd W R s c W'):Ss w w0 R s X c x W' :=
 ⟨h.rd.from k,(k.mv.but.block _ (Array.getElem?_eq_some_iff.1 h.rb).1 (by have:=h.lt;omega)).trans h.rb,(k.mv.but.block _ (Array.getElem?_eq_some_iff.1 h.xb).1 (by have:=h.lt;omega)).trans h.xb,h.lt⟩
theorem Ss.put (h:Ss w w0 R s X b x W) (z:Int) (c:Nat) (hz:z=(c:Int)):Ss w w0 R s X c x (W.setCell ⟨R,1,none⟩ (.int .i64 z)) :=
 ⟨h.rd.put z c hz,(set_off (by have:=h.lt;omega)).trans h.rb,(set_off (by have:=h.lt;omega)).trans h.xb,h.lt⟩
theorem Rd.set {c i:Nat} {v:Value} (h:Rd w0 R s b W) (hc:w0.heap.size<=c) (hR:R<w0.heap.size):Rd w0 R s b (W.setCell ⟨c,i,none⟩ v):=by
 have hn:R≠c:=by omega
 have hcl:∀ o,(W.setCell ⟨c,i,none⟩ v).cell? ⟨R,o,none⟩=W.cell? ⟨R,o,none⟩:=fun o=>World.cell?_setCell_other W _ _ _ (fun e=>hn (by injection e with e;exact e.symm))
 exact⟨⟨(hcl 0).trans h.ra.h0,(hcl 1).trans h.ra.h1,fun o=>by rw[World.frozen?_setCell];exact h.ra.fz o,by simpa[World.setCell] using h.ra.lt⟩,⟨⟨h.mv.but.os,h.mv.but.tape,h.mv.but.output,by simpa[World.setCell] using h.mv.but.size,fun k hk hk2=>(set_off (by omega)).trans (h.mv.but.block k hk hk2)⟩,fun o ho=>(hcl o).trans (h.mv.cell o ho),fun o=>by rw[World.frozen?_setCell];exact h.mv.fz o⟩⟩
theorem Ss.ent (h:Ss w w0 R s X b x W) (n:Int) (h0:w0.heap.size<=w.heap.size) (hR:R<w0.heap.size):Ss w w0 R s X b (x.1,n) (W.setCell ⟨X,1,none⟩ (.int .i64 n)) :=
 ⟨h.rd.set (by have:=h.lt;omega) hR,(set_off (by have:=h.lt;omega)).trans h.rb,by rw[set_at h.xb];rfl,h.lt⟩
theorem Ss.fin (h:Ss w w0 R s X b x W) (h0:w0.heap.size<=w.heap.size) (hR:R<w0.heap.size):Rd w0 R s b (W.setRow w.heap.size (spC x)):=by
 have hn:R≠w.heap.size:=by omega
 have hb:∀ k,k≠w.heap.size->(W.setRow w.heap.size (spC x)).heap[k]?=W.heap[k]?:=fun k hk=>setRow_other _ _ _ _ hk
 have hcl:∀ o,(W.setRow w.heap.size (spC x)).cell? ⟨R,o,none⟩=W.cell? ⟨R,o,none⟩:=fun o=>by simp only[World.cell?,hb R hn]
 have hfz:∀ o,(W.setRow w.heap.size (spC x)).frozen? ⟨R,o,none⟩=W.frozen? ⟨R,o,none⟩:=fun o=>by simp only[World.frozen?,hb R hn]
 exact⟨⟨(hcl 0).trans h.rd.ra.h0,(hcl 1).trans h.rd.ra.h1,fun o=>(hfz o).trans (h.rd.ra.fz o),by rw[size_setRow];exact h.rd.ra.lt⟩,⟨⟨h.rd.mv.but.os,h.rd.mv.but.tape,h.rd.mv.but.output,by rw[size_setRow];exact h.rd.mv.but.size,fun k hk hk2=>(hb k (by omega)).trans (h.rd.mv.but.block k hk hk2)⟩,fun o ho=>(hcl o).trans (h.rd.mv.cell o ho),fun o=>(hfz o).trans (h.rd.mv.fz o)⟩⟩
end
theorem step_any (R:Nat) (s:ByteArray) (a:Nat) (hs:s.size<=281474976710656) (ha:a<=s.size) (w:World) (h:RA w R s a) {o:Option (ByteArray×Int)} {b:Nat} (hst:stP s a=(o,b)):Calls Tryz.prog 73 #[.pointer (some ⟨R,0,none⟩)] w fun e w'=>Rd w R s b w'/\((o=none/\e = .panicked [pvE])\/(∃ x,o=some x/\e = .returned (spV x))):=by
 have hR:=h.lt
 have hb1:=bel1 w zSp
 have hz1:(w.alloc zSp).heap.size=w.heap.size+1:=World.size_alloc _ _
 have hr1:=heap_al w zSp
 have q1:=(Rd.refl h).below hb1
 generalize hW:w.alloc zSp=W1 at hb1 hz1 hr1 q1
 simp only[zSp] at hW
 have cN:=name_any R s a hs ha W1 W1 (Rd.refl q1.ra)
 obtain⟨E,hE⟩:∃ E,nmE s a 64 a=E:=⟨_,rfl⟩
 obtain⟨g1,-,g3⟩:=nmE_ge s a 64 a
 rw[hE] at cN g1 g3
 have hEs:=g3 ha
 by_cases hEa:E=a
 ·have hs2:o=none/\b=a:=by
   unfold stP at hst
   rw[hE,if_pos hEa] at hst
   injection hst with e1 e2
   exact⟨e1.symm,e2.symm⟩
  obtain⟨rfl,rfl⟩:=hs2
  have cN2:Calls Tryz.prog 98 #[.pointer (some ⟨R,0,none⟩)] W1 fun e w'=>e = .panicked [pvE]/\Hid (Rd w R s b w'):=cN.mono fun e w' ⟨h1,h2⟩=>by
   rcases h2 with ⟨-,h2⟩|⟨h2,-⟩
   ·exact⟨h2,⟨by have:=q1.from h1;rw[hEa] at this;exact this⟩⟩
   ·exact absurd hEa h2
  clear cN q1 h
  go_enter Tryz.func73,Tryz.ntmps73
  go_wp2_with (go_at_call 98;refine cN2.mono ?_;rintro _ w1 ⟨rfl,h1⟩)
  exact⟨rfl,h1.out,.inl ⟨trivial,rfl⟩⟩
 ·have cN2:Calls Tryz.prog 98 #[.pointer (some ⟨R,0,none⟩)] W1 fun e w2=>∃ W3,e = .returned (.string (s.extract a E))/\(∀ z:Array Value,z.size=2->(Instr.storeAt 74 (.pointer (some ⟨w2.heap.size,0,none⟩)) (spV (s.extract a E,-1))).run Tryz.prog (w2.alloc (.cells z 74)) = .ok () W3)/\Hid (Ss w w R s w2.heap.size E (s.extract a E,-1) W3):=cN.mono fun e w2 ⟨h1,h2⟩=>by
   rcases h2 with ⟨h2,-⟩|⟨-,h2⟩
   ·exact absurd h2 hEa
   ·have hsz:=h1.mv.but.size
    have hb2:=bel1 w2 (spO (s.extract a E,-1))
    refine⟨_,h2,fun z hz=>sp_new w2 z hz _,⟨⟨(q1.from h1).below hb2,?_,heap_al _ _,hR,by omega⟩⟩⟩
    exact(hb2.block _ (by omega)).trans ((h1.mv.but.block _ (by omega) (by omega)).trans hr1)
  clear cN q1 h hb1 hr1
  by_cases h91:E<s.size/\ch s E=91
  ·have hEi:(E:Int)+1<=281474976710656:=by omega
   obtain⟨F,N,hF⟩:∃ F N,nuE s (E+1) (s.size-(E+1)) (E+1) 0=(F,N):=⟨_,_,rfl⟩
   have cA:Hid (∀ X W,Ss w w R s X E (s.extract a E,-1) W->Calls Tryz.prog 99 #[.pointer (some ⟨R,0,none⟩),.int .u8 91] W fun e w3=>e = .returned (.bool true)/\w3.cell? ⟨R,1,none⟩=some (.int .i64 (E:Int))/\w3.frozen? ⟨R,1,none⟩=false/\Hid (Ss w w R s X (E+1) (s.extract a E,-1) (w3.setCell ⟨R,1,none⟩ (.int .i64 ((E:Int)+1))))):=⟨fun X W hX=>(sees_any R s E 91 W W (Rd.refl hX.rd.ra)).mono fun e w3 ⟨h1,h2⟩=>by
    have hY:=hX.call h2
    exact⟨by rw[h1,decide_eq_true h91],hY.rd.ra.h1,hY.rd.ra.fz 1,⟨hY.put _ (E+1) (by omega)⟩⟩⟩
   have hFg:=nuE_ge s (E+1) (s.size-(E+1)) (E+1) 0
   rw[hF] at hFg
   have hFs:F<=s.size:=hFg.2.1 (by omega)
   by_cases hFE:F=E+1
   ·have hs2:o=none/\b=F:=by
     unfold stP at hst
     rw[hE,if_neg hEa,if_pos h91,hF,if_pos (.inl hFE)] at hst
     injection hst with e1 e2
     exact⟨e1.symm,e2.symm⟩
    obtain⟨rfl,rfl⟩:=hs2
    have cU:Hid (∀ X W,Ss w w R s X (E+1) (s.extract a E,-1) W->Calls Tryz.prog 100 #[.pointer (some ⟨R,0,none⟩)] W fun e w'=>e = .panicked [pvE]/\Hid (Rd w R s b w')):=⟨fun X W hX=>(number_any R s (E+1) hs (by omega) W W (Rd.refl hX.rd.ra) hF).mono fun e w' ⟨h1,h2⟩=>by
     rcases h2 with ⟨-,h2⟩|⟨h2,-⟩
     ·exact⟨h2,⟨hX.rd.from h1⟩⟩
     ·exact absurd hFE h2⟩
    clear hst hE h91 hF hFg
    go_enter Tryz.func73,Tryz.ntmps73
    go_wp2_with (first
     | (go_at_call 98;refine cN2.mono ?_;rintro _ w2 ⟨W3,rfl,s3,hS⟩;replace s3:=Hid.mk s3;have cS:=cA.out _ _ hS.out;clear hS)
     | (go_at_call 99;refine cS.mono ?_;rintro _ w3 ⟨rfl,k1,f1,hS⟩;have cV:=cU.out _ _ hS.out;clear hS)
     | (go_at_call 100;refine cV.mono ?_;rintro _ w4 ⟨rfl,h4⟩)
     | (guard_target =~ wpList _ _ _ (Oper.mk _ (Op.store 74 _ _) _ _ _ _::_) _ _;go_must (refine wpList_st 74 _ _ rfl rfl _ _ rfl rfl (s3.out _ rfl) ?_);simp only[pts]))
    exact⟨rfl,h4.out,.inl ⟨trivial,rfl⟩⟩
   ·have cU:Hid (∀ X W,Ss w w R s X (E+1) (s.extract a E,-1) W->Calls Tryz.prog 100 #[.pointer (some ⟨R,0,none⟩)] W fun e w'=>e = .returned (.int .i64 (N:Int))/\w'.cell? ⟨X,1,none⟩=some (.int .i64 (-1))/\w'.frozen? ⟨X,1,none⟩=false/\Hid (Ss w w R s X F (s.extract a E,(N:Int)) (w'.setCell ⟨X,1,none⟩ (.int .i64 (N:Int))))):=⟨fun X W hX=>(number_any R s (E+1) hs (by omega) W W (Rd.refl hX.rd.ra) hF).mono fun e w' ⟨h1,h2⟩=>by
     rcases h2 with ⟨h2,-⟩|⟨-,h2⟩
     ·exact absurd h2 hFE
     ·have hY:=hX.call h1
      exact⟨h2,cell_at hY.xb 1,frz_at hY.xb,⟨hY.ent N (Nat.le_refl _) hR⟩⟩⟩
    by_cases h93:F<s.size/\ch s F=93
    ·have hs2:o=some (s.extract a E,(N:Int))/\b=F+1:=by
      unfold stP at hst
      rw[hE,if_neg hEa,if_pos h91,hF,if_neg (fun hh=>hh.elim hFE (fun h=>h h93))] at hst
      injection hst with e1 e2
      exact⟨e1.symm,e2.symm⟩
     obtain⟨rfl,rfl⟩:=hs2
     have cW:Hid (∀ X W,Ss w w R s X F (s.extract a E,(N:Int)) W->Calls Tryz.prog 74 #[.pointer (some ⟨R,0,none⟩),.int .u8 93] W fun e w3=>e = .returned (.tuple #[])/\(Instr.loadAt 74 (.pointer (some ⟨X,0,none⟩))).run Tryz.prog w3 = .ok (spV (s.extract a E,(N:Int))) w3/\(Instr.storeAt 74 (.pointer (some ⟨w.heap.size,0,none⟩)) (spV (s.extract a E,(N:Int)))).run Tryz.prog w3 = .ok () (w3.setRow w.heap.size (spC (s.extract a E,(N:Int))))/\Hid (w3.heap[w.heap.size]?=some zSp/\Rd w R s (F+1) (w3.setRow w.heap.size (spC (s.extract a E,(N:Int)))))):=⟨fun X W hX=>(want_ok R s F 93 (by omega) h93 W W (Rd.refl hX.rd.ra)).mono fun e w3 ⟨h1,h2⟩=>by
      have hY:=hX.call h2
      exact⟨h1,sp_ld _ hY.xb,sp_st hY.rb rfl _,⟨hY.rb,hY.fin (Nat.le_refl _) hR⟩⟩⟩
     clear hst hE h91 hF hFg h93
     go_enter Tryz.func73,Tryz.ntmps73
     go_wp2_with (first
      | (go_at_call 98;refine cN2.mono ?_;rintro _ w2 ⟨W3,rfl,s3,hS⟩;replace s3:=Hid.mk s3;have cS:=cA.out _ _ hS.out;clear hS)
      | (go_at_call 99;refine cS.mono ?_;rintro _ w3 ⟨rfl,k1,f1,hS⟩;have cV:=cU.out _ _ hS.out;clear hS)
      | (go_at_call 100;refine cV.mono ?_;rintro _ w4 ⟨rfl,k2,f2,hS⟩;have cX:=cW.out _ _ hS.out;clear hS)
      | (go_at_call 74;refine cX.mono ?_;rintro _ w5 ⟨rfl,l3,t3,hG⟩;replace l3:=Hid.mk l3;replace t3:=Hid.mk t3)
      | (guard_target =~ wpList _ _ _ (Oper.mk _ (Op.load 74 _) _ _ _ _::_) _ _;go_must (refine wpList_ld 74 _ rfl rfl _ _ rfl l3.out ?_);simp only[pts])
      | (guard_target =~ wpList _ _ _ (Oper.mk _ (Op.store 74 _ _) _ _ _ _::_) _ _;go_must (first|refine wpList_st 74 _ _ rfl rfl _ _ rfl rfl (s3.out _ rfl) ?_|refine wpList_st 74 _ _ rfl rfl _ _ rfl rfl t3.out ?_);simp only[pts]))
     exact bodyPost_ret (results_cell_row rfl _ _ w.heap.size 74 _ (0,0) _ rfl (setRow_heap _ _ _ _ _ _ hG.out.1) Tryz.underlying74 rfl infoSp) rfl ⟨hG.out.2,.inr ⟨_,rfl,rfl⟩⟩
    ·have hs2:o=none/\b=F:=by
      unfold stP at hst
      rw[hE,if_neg hEa,if_pos h91,hF,if_pos (.inr h93)] at hst
      injection hst with e1 e2
      exact⟨e1.symm,e2.symm⟩
     obtain⟨rfl,rfl⟩:=hs2
     have cW:Hid (∀ X W,Ss w w R s X b (s.extract a E,(N:Int)) W->Calls Tryz.prog 74 #[.pointer (some ⟨R,0,none⟩),.int .u8 93] W fun e w3=>e = .panicked [pvE]/\Hid (Rd w R s b w3)):=⟨fun X W hX=>(want_no R s b 93 h93 W W (Rd.refl hX.rd.ra)).mono fun e w3 ⟨h1,h2⟩=>⟨h1,⟨hX.rd.from h2⟩⟩⟩
     clear hst hE h91 hF hFg h93
     go_enter Tryz.func73,Tryz.ntmps73
     go_wp2_with (first
      | (go_at_call 98;refine cN2.mono ?_;rintro _ w2 ⟨W3,rfl,s3,hS⟩;replace s3:=Hid.mk s3;have cS:=cA.out _ _ hS.out;clear hS)
      | (go_at_call 99;refine cS.mono ?_;rintro _ w3 ⟨rfl,k1,f1,hS⟩;have cV:=cU.out _ _ hS.out;clear hS)
      | (go_at_call 100;refine cV.mono ?_;rintro _ w4 ⟨rfl,k2,f2,hS⟩;have cX:=cW.out _ _ hS.out;clear hS)
      | (go_at_call 74;refine cX.mono ?_;rintro _ w5 ⟨rfl,h5⟩)
      | (guard_target =~ wpList _ _ _ (Oper.mk _ (Op.store 74 _ _) _ _ _ _::_) _ _;go_must (refine wpList_st 74 _ _ rfl rfl _ _ rfl rfl (s3.out _ rfl) ?_);simp only[pts]))
     exact⟨rfl,h5.out,.inl ⟨trivial,rfl⟩⟩
  ·have hs2:o=some (s.extract a E,-1)/\b=E:=by
    unfold stP at hst
    rw[hE,if_neg hEa,if_neg h91] at hst
    injection hst with e1 e2
    exact⟨e1.symm,e2.symm⟩
   obtain⟨rfl,rfl⟩:=hs2
   have hfin:Hid (∀ X W,Ss w w R s X b (s.extract a b,-1) W->Calls Tryz.prog 99 #[.pointer (some ⟨R,0,none⟩),.int .u8 91] W fun e w3=>e = .returned (.bool false)/\(Instr.loadAt 74 (.pointer (some ⟨X,0,none⟩))).run Tryz.prog w3 = .ok (spV (s.extract a b,-1)) w3/\(Instr.storeAt 74 (.pointer (some ⟨w.heap.size,0,none⟩)) (spV (s.extract a b,-1))).run Tryz.prog w3 = .ok () (w3.setRow w.heap.size (spC (s.extract a b,-1)))/\Hid (w3.heap[w.heap.size]?=some zSp/\Rd w R s b (w3.setRow w.heap.size (spC (s.extract a b,-1))))):=⟨fun X W hX=>(sees_any R s b 91 W W (Rd.refl hX.rd.ra)).mono fun e w3 ⟨h1,h2⟩=>by
    have hY:=hX.call h2
    exact⟨by rw[h1,decide_eq_false h91],sp_ld _ hY.xb,sp_st hY.rb rfl _,⟨hY.rb,hY.fin (Nat.le_refl _) hR⟩⟩⟩
   clear hst hE h91 hR
   go_enter Tryz.func73,Tryz.ntmps73
   go_wp2_with (first
    | (go_at_call 98;refine cN2.mono ?_;rintro _ w2 ⟨W3,rfl,s3,hS⟩;replace s3:=Hid.mk s3;have cS:=hfin.out _ _ hS.out;clear hS)
    | (go_at_call 99;refine cS.mono ?_;rintro _ w3 ⟨rfl,l3,t3,hF⟩;replace l3:=Hid.mk l3;replace t3:=Hid.mk t3)
    | (guard_target =~ wpList _ _ _ (Oper.mk _ (Op.load 74 _) _ _ _ _::_) _ _;go_must (refine wpList_ld 74 _ rfl rfl _ _ rfl l3.out ?_);simp only[pts])
    | (guard_target =~ wpList _ _ _ (Oper.mk _ (Op.store 74 _ _) _ _ _ _::_) _ _;go_must (first|refine wpList_st 74 _ _ rfl rfl _ _ rfl rfl (s3.out _ rfl) ?_|refine wpList_st 74 _ _ rfl rfl _ _ rfl rfl t3.out ?_);simp only[pts]))
   exact bodyPost_ret (results_cell_row rfl _ _ w.heap.size 74 _ (0,0) _ rfl (setRow_heap _ _ _ _ _ _ hF.out.1) Tryz.underlying74 rfl infoSp) rfl ⟨hF.out.2,.inr ⟨_,rfl,rfl⟩⟩
open Go.Maps
def conP (s:ByteArray) (k b:Nat) (l:List (ByteArray×Int)):Option (List (ByteArray×Int))×Nat:=if b=s.size then (some l,0) else if ch s b=46 then paP s k (b+1) l else (none,b)
theorem paP_none {s:ByteArray} {k a b:Nat} {l:List (ByteArray×Int)} (h:stP s a=(none,b)):paP s (k+1) a l=(none,b):=by rw[paP,h]
theorem paP_some {s:ByteArray} {k a b:Nat} {l:List (ByteArray×Int)} {x:ByteArray×Int} (h:stP s a=(some x,b)):paP s (k+1) a l=conP s k b (l++[x]):=by rw[paP,h];rfl
def spL (l:List (ByteArray×Int)):List Value:=l.flatMap fun x=>[.string x.1,.int .i64 x.2]
theorem spL_snoc (l:List (ByteArray×Int)) (x:ByteArray×Int):spL (l++[x])=spL l++[.string x.1,.int .i64 x.2]:=by simp[spL]
def StR (W:World) (B:Nat) (v:Value) (l:List (ByteArray×Int)):Prop:=W.ownsRow B 74 2 v l.length (spL l)
theorem infoSpK:(Tryz.prog.info? 74).map (fun i=>(i.zero,i.size,i.bytes))=some (some (.agg #[.string ⟨#[]⟩,.int .i64 0]),2,24):=by kernel_rfl
theorem own_stay {W W':World} {B z n:Nat} {ty:TypeId} {v:Value} {xs:List Value} (h:W.ownsRow B ty z v n xs) (hb:∀ g,v.ownBlock=some g->W'.heap[g]?=W.heap[g]?):W'.ownsRow B ty z v n xs:=by
 refine⟨h.1,?_⟩
 rcases h.2 with h0|⟨g,cap,cur,e,hb',hg,r⟩
 ·exact .inl h0
 ·exact .inr ⟨g,cap,cur,e,hb',(hb g (by rw[e];rfl)).trans hg,r⟩
theorem own_slic {W:World} {b e z n:Nat} {v:Value} {xs:List Value} (h:W.ownsRow b e z v n xs) (hn:0<n):∃ g c,v = .slice (some ⟨g,0,none⟩) n c:=by
 rcases h.2 with ⟨_,e0⟩|⟨g,cap,cur,e,-⟩
 ·omega
 ·exact⟨_,_,e⟩
theorem ap_genP {W:World} {base:Nat} {t e:TypeId} {z:Value} {size bytes n:Nat} {v:Value} {xs:List Value} (ht:Tryz.prog.underlying t=some (.slice e)) (hi:(Tryz.prog.info? e).map (fun i=>(i.zero,i.size,i.bytes))=some (some z,size,bytes)) (hz:z.cells.size=size) (hsz:0<size)
  (own:W.ownsRow base e size v n xs) (cs:List Value) (hcs:cs.length=size) (h1:∀ u∈cs,u.oneCell'=true) (hn:(n+1)*bytes<=140737488355328) (hn':n+1<=140737488355328) (hbase:base<=W.heap.size) :
  ∃ v' w',(∀ ty,(Builtin.append_ #[t,t] ty #[v,.slice (some ⟨W.heap.size,0,none⟩) 1 1]).run Tryz.prog (W.alloc (.cells cs.toArray e)) = .ok v' w')/\(w'.ownsRow base e size v' (n+1) (xs++cs)/\Below base W w'/\(∀ j,j<W.heap.size->v.ownBlock≠some j->w'.heap[j]?=W.heap[j]?)/\∀ k,v'.ownBlock=some k->v.ownBlock=some k\/W.heap.size<=k):=by
 obtain⟨i0,hi0,hz0⟩:=Option.map_eq_some_iff.1 hi
 simp only[Prod.mk.injEq] at hz0
 have hB:=nbel W (.cells cs.toArray e)
 have hO:=own_keep own hB
 have hN:∀ (j:Nat) (u:Value),cs[j]?=some u->(W.alloc (.cells cs.toArray e)).cell? ((⟨W.heap.size,0,none⟩:Addr).add j)=some u:=World.news_of_block (thnK W _)
 have hs:(W.alloc (.cells cs.toArray e)).heap.size=W.heap.size+1:=World.size_alloc _ _
 have hr:=run_append_own_at (P:=Tryz.prog) (W.alloc (.cells cs.toArray e)) base t 0 e i0 z size bytes ht hi0 hz0.1 hz0.2.1 hz0.2.2 hz hsz v n xs hO ⟨W.heap.size,0,none⟩ 1 1 cs (by rw[hcs,Nat.one_mul]) hN h1 (by simp only[maxLen];omega) hn (by omega)
 obtain⟨v',w',q1,q2,q3,_,q5⟩:=hr
 refine⟨v',w',fun _=>q1,q2,grown_below hB q3 hbase (fun j hj=>(own.lt j hj).1),fun j hj hn=>(q3.block j (by omega) (fun e=>hn e.symm)).trans (hB.block j hj),fun k hk=>?_⟩
 rcases q5 with q5|q5
 ·exact .inl (by rw[<- q5];exact hk)
 ·rw[q5] at hk
  cases hk
  exact .inr (by omega)
theorem rdigit (c:Nat) (w:World):Calls Tryz.prog 87 #[.int .u8 (c:Int)] w fun e w'=>e = .returned (.bool (ndig c))/\w'=w:=by
 unfold ndig
 by_cases h:48<=c
 ·go_enter Tryz.func87,Tryz.ntmps87
  go_wp2
  go_ret
  exact⟨nret (by simp[h];omega),rfl⟩
 ·have d:decide (48<=(c:Int))=false:=by simp;omega
  go_enter Tryz.func87,Tryz.ntmps87
  go_wp2
  go_ret
  exact⟨nret (by simp;omega),rfl⟩
theorem rletter (c:Nat) (w:World):Calls Tryz.prog 86 #[.int .u8 (c:Int)] w fun e w'=>e = .returned (.bool (nlet c))/\w'=w:=by
 have:(c<65)\/(65<=c/\c<=90)\/(90<c/\c<97)\/(97<=c/\c<=122)\/122<c:=by omega
 rcases this with h|h|h|h|h
 ·have d1:decide (65<=(c:Int))=false:=by simp;omega
  have d3:decide (97<=(c:Int))=false:=by simp;omega
  have g:nlet c=false:=by unfold nlet;simp;omega
  rw[g]
  go_enter Tryz.func86,Tryz.ntmps86
  go_wp2
  go_ret
  exact⟨rfl,rfl⟩
 ·have d1:decide (65<=(c:Int))=true:=by simp;omega
  have d2:decide ((c:Int)<=90)=true:=by simp;omega
  have d3:decide (97<=(c:Int))=false:=by simp;omega
  have g:nlet c=true:=by unfold nlet;simp;omega
  rw[g]
  go_enter Tryz.func86,Tryz.ntmps86
  go_wp2
  go_ret
  exact⟨rfl,rfl⟩
 ·have d1:decide (65<=(c:Int))=true:=by simp;omega
  have d2:decide ((c:Int)<=90)=false:=by simp;omega
  have d3:decide (97<=(c:Int))=false:=by simp;omega
  have g:nlet c=false:=by unfold nlet;simp;omega
  rw[g]
  go_enter Tryz.func86,Tryz.ntmps86
  go_wp2
  go_ret
  exact⟨rfl,rfl⟩
 ·have d3:decide (97<=(c:Int))=true:=by simp;omega
  have d4:decide ((c:Int)<=122)=true:=by simp;omega
  have g:nlet c=true:=by unfold nlet;simp;omega
  rw[g]
  go_enter Tryz.func86,Tryz.ntmps86
  go_wp2
  go_ret
  exact⟨rfl,rfl⟩
 ·have d1:decide (65<=(c:Int))=true:=by simp;omega
  have d2:decide ((c:Int)<=90)=false:=by simp;omega
  have d3:decide (97<=(c:Int))=true:=by simp;omega
  have d4:decide ((c:Int)<=122)=false:=by simp;omega
  have g:nlet c=false:=by unfold nlet;simp;omega
  rw[g]
  go_enter Tryz.func86,Tryz.ntmps86
  go_wp2
  go_ret
  exact⟨rfl,rfl⟩
def inSet (S:ByteArray) (c k:Nat):Bool:=(List.range k).any fun j=>decide (ch S j=c)
theorem inSet_succ (S:ByteArray) (c k:Nat):inSet S c (k+1)=(inSet S c k||decide (ch S k=c)):=by
 unfold inSet
 rw[List.range_succ,List.any_append]
 simp
def madeC (F M:ByteArray) (i c:Nat):Bool:=(nlet c||(decide (0<i)&&ndig c))||inSet (if i=0 then F else M) c (if i=0 then F else M).size
def madeB (s F M:ByteArray):Bool:=decide (0<s.size/\∀ i,i<s.size->madeC F M i (ch s i)=true)
theorem rb3 {a b:World} (h:Below a.heap.size a b) (n:Nat):Below a.heap.size a (b.drewN n):=⟨h.os,h.tape,h.output,h.size,h.block⟩
theorem rmade (s F M:ByteArray) (hs:s.size<=9223372036854775806) (hF:F.size<=100) (hM:M.size<=100) (w:World):Calls Tryz.prog 62 #[.string s,.string F,.string M] w fun e w'=>e = .returned (.bool (madeB s F M))/\Below w.heap.size w w':=by
 go_enter Tryz.func62,Tryz.ntmps62
 go_wp2_with fail
 go_loopw [7] (fun v wr=>∃ i:Nat,i<=s.size/\v = .int .i64 (i:Int)/\(∀ j,j<i->madeC F M j (ch s j)=true)/\Below w.heap.size w wr) (fun v _=>s.size-(intOf v).toNat)
 case atStart=>exact⟨0,Nat.zero_le _,rfl,fun j hj=>absurd hj (Nat.not_lt_zero j),Below.refl _ _⟩
 case round =>
  obtain⟨i,hi,rfl,hall,HB⟩:=hrel
  by_cases hlt:i<s.size
  ·have d1:decide ((i:Int)<(s.size:Int))=true:=by simp;omega
   have ix:∀ w:World,(Instr.index 9 (.string s) (.int .i64 (i:Int))).run Tryz.prog w = .ok (.int .u8 (ch s i:Int)) w:=fun w=>nidx (w:=w) s i hlt .i64
   by_cases hi0:i=0
   ·subst hi0
    obtain⟨c,hc⟩:∃ c,Go.RowKit.Hid (c=ch s 0):=⟨_,rfl⟩
    have ix:∀ w:World,(Instr.index 9 (.string s) (.int .i64 0)).run Tryz.prog w = .ok (.int .u8 (c:Int)) w:=fun w=>by rw[hc.out];exact nidx (w:=w) s 0 hlt .i64
    have d1:decide (0<(s.size:Int))=true:=by simp;omega
    obtain⟨b0,hb0⟩:∃ b0,nlet c=b0:=⟨_,rfl⟩
    have hX:Go.RowKit.Hid (madeC F M 0 c=(b0||inSet F c F.size)):=by show _=_;unfold madeC;simp[hb0]
    go_upto_region 7 with fail
    go_cut [8,9] (fun s8 s9 wx=>s8 = .string F/\s9 = .bool b0/\wx=wr)
    case first =>
     cases hl:nlet c<;>rw[hl] at hb0
     all_goals
      have hb1:Go.RowKit.Hid (_=b0):=hb0
      clear hb0
      go_wp2_with (first|(go_at_call 86;refine(rletter _ _).mono ?_;rintro e w1 ⟨rfl,hw1⟩;subst w1)|(go_at_call 87;refine(rdigit _ _).mono ?_;rintro e w1 ⟨rfl,hw1⟩;subst w1))
      go_meet
      case rel=>exact⟨rfl,by rw[<- hb1.out]<;>rfl,rfl⟩
    case rest =>
    obtain⟨rfl,rfl,rfl⟩:=hcut
    rename World=>wr
    go_wp2_with fail
    go_loopw [9,10] (fun ok v w2=>∃ k:Nat,k<=F.size/\v = .int .i64 (k:Int)/\ok = .bool (b0||inSet F c k)/\Below w.heap.size w w2) (fun _ v _=>F.size-(intOf v).toNat)
    case atStart=>exact⟨0,Nat.zero_le _,rfl,by simp[inSet],HB⟩
    case round =>
     obtain⟨k,hk,rfl,rfl,HB⟩:=hrel
     by_cases hkl:k<F.size
     ·have d2:decide ((k:Int)<(F.size:Int))=true:=by simp;omega
      have ix2:∀ w:World,(Instr.index 9 (.string F) (.int .i64 (k:Int))).run Tryz.prog w = .ok (.int .u8 (ch F k:Int)) w:=fun w=>nidx (w:=w) F k hkl .i64
      have hsu:=inSet_succ F c k
      by_cases hcc:ch F k=c
      ·have ec:((ch F k:Int)==(c:Int))=true:=by simp;omega
       have hv:Go.RowKit.Hid ((b0||inSet F c (k+1))=true):=by show _=_;rw[hsu,decide_eq_true hcc,Bool.or_true,Bool.or_true]
       clear hcc hsu
       go_wp2_with fail
       go_quiet (fail)
       go_wp2_with fail
       go_round
       case rel=>exact⟨k+1,by omega,by go_num,by rw[hv.out],rb3 HB _⟩
       case measure=>simp[intOf];omega
      ·have ec:((ch F k:Int)==(c:Int))=false:=by simp;omega
       have hv:Go.RowKit.Hid ((b0||inSet F c (k+1))=(b0||inSet F c k)):=by show _=_;rw[hsu,decide_eq_false hcc,Bool.or_false]
       clear hcc hsu
       go_wp2_with fail
       go_quiet (fail)
       go_wp2_with fail
       go_round
       case rel=>exact⟨k+1,by omega,by go_num,by rw[hv.out],rb3 HB _⟩
       case measure=>simp[intOf];omega
     ·obtain rfl:k=F.size:=by omega
      have d2:decide ((F.size:Int)<(F.size:Int))=false:=by simp
      have hX:=hX.out
      generalize (b0||inSet F c F.size)=bb at hX ⊢
      cases bb
      ·have g:madeB s F M=false:=by
        unfold madeB
        simp only[decide_eq_false_iff_not]
        rintro⟨-,h⟩
        have:=h 0 hlt
        rw[<- hc.out,hX] at this
        cases this
       clear hX
       go_wp2_with fail
       go_ret
       first|exact⟨rfl,HB⟩|exact⟨nret g.symm,HB⟩
      ·have hX:Go.RowKit.Hid (_=true):=hX
       go_wp2_with fail
       go_round
       case rel=>exact⟨1,by omega,by go_num,fun j hj=>by
        by_cases h:j=0
        ·rw[h,<- hc.out];exact hX.out
        ·exact hall j (by omega),HB⟩
       case measure=>simp[intOf];omega
   ·have e0:((i:Int)==0)=false:=by simp[hi0]
    have p0:0<i:=by omega
    obtain⟨c,hc⟩:∃ c,Go.RowKit.Hid (c=ch s i):=⟨_,rfl⟩
    rw[<- hc.out] at ix
    obtain⟨b0,hb0⟩:∃ b0,(nlet c||ndig c)=b0:=⟨_,rfl⟩
    have hX:Go.RowKit.Hid (madeC F M i c=(b0||inSet M c M.size)):=by show _=_;unfold madeC;rw[if_neg hi0,<- hb0,decide_eq_true (show 0<i by omega),Bool.true_and]
    clear hi0
    go_upto_region 7 with fail
    go_cut [8,9] (fun s8 s9 wx=>s8 = .string M/\s9 = .bool b0/\wx=wr)
    case first =>
     cases hl:nlet c<;>cases hd:ndig c<;>rw[hl,hd] at hb0
     all_goals
      have hb1:Go.RowKit.Hid (_=b0):=hb0
      clear hb0
      go_wp2_with (first|(go_at_call 86;refine(rletter _ _).mono ?_;rintro e w1 ⟨rfl,hw1⟩;subst w1)|(go_at_call 87;refine(rdigit _ _).mono ?_;rintro e w1 ⟨rfl,hw1⟩;subst w1))
      go_meet
      case rel=>exact⟨rfl,by rw[<- hb1.out]<;>rfl,rfl⟩
    case rest =>
    obtain⟨rfl,rfl,rfl⟩:=hcut
    rename World=>wr
    go_wp2_with fail
    go_loopw [9,10] (fun ok v w2=>∃ k:Nat,k<=M.size/\v = .int .i64 (k:Int)/\ok = .bool (b0||inSet M c k)/\Below w.heap.size w w2) (fun _ v _=>M.size-(intOf v).toNat)
    case atStart=>exact⟨0,Nat.zero_le _,rfl,by simp[inSet],HB⟩
    case round =>
     obtain⟨k,hk,rfl,rfl,HB⟩:=hrel
     by_cases hkl:k<M.size
     ·have d2:decide ((k:Int)<(M.size:Int))=true:=by simp;omega
      have ix2:∀ w:World,(Instr.index 9 (.string M) (.int .i64 (k:Int))).run Tryz.prog w = .ok (.int .u8 (ch M k:Int)) w:=fun w=>nidx (w:=w) M k hkl .i64
      have hsu:=inSet_succ M c k
      by_cases hcc:ch M k=c
      ·have ec:((ch M k:Int)==(c:Int))=true:=by simp;omega
       have hv:Go.RowKit.Hid ((b0||inSet M c (k+1))=true):=by show _=_;rw[hsu,decide_eq_true hcc,Bool.or_true,Bool.or_true]
       clear hcc hsu
       go_wp2_with fail
       go_quiet (fail)
       go_wp2_with fail
       go_round
       case rel=>exact⟨k+1,by omega,by go_num,by rw[hv.out],rb3 HB _⟩
       case measure=>simp[intOf];omega
      ·have ec:((ch M k:Int)==(c:Int))=false:=by simp;omega
       have hv:Go.RowKit.Hid ((b0||inSet M c (k+1))=(b0||inSet M c k)):=by show _=_;rw[hsu,decide_eq_false hcc,Bool.or_false]
       clear hcc hsu
       go_wp2_with fail
       go_quiet (fail)
       go_wp2_with fail
       go_round
       case rel=>exact⟨k+1,by omega,by go_num,by rw[hv.out],rb3 HB _⟩
       case measure=>simp[intOf];omega
     ·obtain rfl:k=M.size:=by omega
      have d2:decide ((M.size:Int)<(M.size:Int))=false:=by simp
      have hX:=hX.out
      generalize (b0||inSet M c M.size)=bb at hX ⊢
      cases bb
      ·have g:madeB s F M=false:=by
        unfold madeB
        simp only[decide_eq_false_iff_not]
        rintro⟨-,h⟩
        have:=h i hlt
        rw[<- hc.out,hX] at this
        cases this
       clear hX
       go_wp2_with fail
       go_ret
       first|exact⟨rfl,HB⟩|exact⟨nret g.symm,HB⟩
      ·have hX:Go.RowKit.Hid (_=true):=hX
       go_wp2_with fail
       go_round
       case rel=>exact⟨i+1,by omega,by go_num,fun j hj=>by
        by_cases h:j=i
        ·rw[h,<- hc.out];exact hX.out
        ·exact hall j (by omega),HB⟩
       case measure=>simp[intOf];omega
  ·obtain rfl:i=s.size:=by omega
   have g:madeB s F M = !(s.toList==[]):=by
    rw[nempty]
    unfold madeB
    by_cases h0:s.size=0
    ·simp[h0]
    ·simp only[h0,decide_false,Bool.not_false,decide_eq_true_eq]
     exact⟨by omega,hall⟩
   clear hall
   have d2:decide ((s.size:Int)<(s.size:Int))=false:=by simp
   have g:Go.RowKit.Hid (madeB s F M = !(s.toList==[])):=g
   go_wp2_with fail
   go_ret
   exact⟨nret (by rw[g.out];cases s.toList<;>rfl),HB⟩
abbrev yF:ByteArray:=⟨#[95]⟩
theorem inSet_yF (c:Nat):inSet yF c yF.size=decide (95=c):=by
 show (decide (95=c)||false)=_
 rw[Bool.or_false]
theorem madeC_y (i c:Nat):madeC yF yF i c=(nsym c && !(decide (i=0)&&ndig c && !nlet c && !decide (c=95))):=by
 unfold madeC nsym
 simp only[ite_self]
 rw[inSet_yF]
 by_cases hi:i=0
 ·rw[hi]
  simp only[eq_comm (a:=c)]
  cases nlet c<;>cases ndig c<;>cases decide (95=c)<;>simp
 ·rw[decide_eq_true (show 0<i by omega),decide_eq_false hi]
  simp only[eq_comm (a:=c)]
  cases nlet c<;>cases ndig c<;>cases decide (95=c)<;>rfl
theorem dig_not (c:Nat) (h:ndig c=true):nlet c=false/\decide (c=95)=false:=by
 unfold ndig at h
 simp only[Bool.and_eq_true,decide_eq_true_eq] at h
 unfold nlet
 constructor
 ·simp;omega
 ·simp;omega
theorem madeB_y (s:ByteArray):(decide (s.size<=64)&&madeB s yF yF)=symbolB s:=by
 unfold madeB symbolB
 rw[<- Bool.decide_and]
 apply decide_eq_decide.2
 constructor
 ·rintro⟨h1,h2,h3⟩
  refine⟨h2,h1,?_,fun i hi=>?_⟩
  ·have:=h3 0 h2
   rw[madeC_y] at this
   cases hd:ndig (ch s 0)
   ·rfl
   ·obtain⟨a,b⟩:=dig_not _ hd
    rw[hd,a,b] at this
    simp at this
  ·have:=h3 i hi
   rw[madeC_y,Bool.and_eq_true] at this
   exact this.1
 ·rintro⟨h1,h2,h3,h4⟩
  refine⟨h2,h1,fun i hi=>?_⟩
  rw[madeC_y,h4 i hi]
  by_cases h0:i=0
  ·rw[h0,h3];simp
  ·simp[h0]
theorem rSymbol (s:ByteArray) (hs:s.size<=9223372036854775806) (w:World):Calls Tryz.prog 41 #[.string s] w fun e w'=>e = .returned (.bool (symbolB s))/\Below w.heap.size w w':=by
 have hm:=fun w=>rmade s yF yF hs (by decide) (by decide) w
 have hy:=madeB_y s
 by_cases h:s.size<=64
 ·have d:decide ((s.size:Int)<=64)=true:=by simp;omega
  rw[decide_eq_true h,Bool.true_and] at hy
  rw[hy] at hm
  clear hy
  go_enter Tryz.func41,Tryz.ntmps41
  go_wp2_with (go_at_call 62;refine(hm _).mono ?_;rintro e w1 ⟨rfl,hb⟩)
  go_ret
  exact⟨rfl,hb⟩
 ·have d:decide ((s.size:Int)<=64)=false:=by simp;omega
  rw[decide_eq_false h,Bool.false_and] at hy
  rw[<- hy]
  clear hy hm h
  go_enter Tryz.func41,Tryz.ntmps41
  go_wp2
  go_ret
  exact⟨rfl,Below.refl _ _⟩
def oneB (c:Nat):ByteArray:=⟨#[UInt8.ofNat c]⟩
theorem oneB_size (c:Nat):(oneB c).size=1:=rfl
theorem oneB_ch (c:Nat) (hc:c<256):ch (oneB c) 0=c:=by
 show (UInt8.ofNat c).toNat=c
 simp
 omega
theorem nconv (W:World) (g:Nat) (c:Nat) (hg:W.heap.size=g) :
  (convert 29 9 (.slice (some ⟨g,0,none⟩) 1 1)).run Tryz.prog (W.alloc (.cells #[.int .u8 (c:Int)] 5)) = .ok (.string (oneB c)) (W.alloc (.cells #[.int .u8 (c:Int)] 5)):=by
 subst hg
 have:strOfNums [(c:Int)]=oneB c:=by unfold strOfNums oneB;simp
 rw[<- this]
 refine run_convert_bytes_arg _ 29 5 Tryz.underlying29 Tryz.underlying5 W.heap.size 0 1 1 [(c:Int)] rfl (fun i hi=>?_) 9 Tryz.underlying9
 obtain rfl:i=0:=by omega
 have:(W.alloc (.cells #[.int .u8 (c:Int)] 5)).heap[W.heap.size]?=some (.cells #[.int .u8 (c:Int)] 5):=heap_alloc_new W _
 rw[Nat.zero_add]
 unfold World.cell?
 rw[this]
 rfl
theorem digit21 (c:Nat) (w:World):Calls Tryz.prog 40 #[.int .u8 (c:Int)] w fun e w'=>e = .returned (.bool (ndig c))/\w'=w:=by
 unfold ndig
 by_cases h:48<=c
 ·go_enter Tryz.func40,Tryz.ntmps40
  go_wp2
  go_ret
  exact⟨nret (by simp[h];omega),rfl⟩
 ·have d:decide (48<=(c:Int))=false:=by simp;omega
  go_enter Tryz.func40,Tryz.ntmps40
  go_wp2
  go_ret
  exact⟨nret (by simp;omega),rfl⟩
theorem symC_one (c : Nat) (hc : c<256) : symbolB (oneB c)=symC c true := by
  unfold symbolB symC
  rw[oneB_size, oneB_ch c hc]
  cases hs : nsym c<;>cases hd : ndig c
  · exact decide_eq_false fun h => by have := h.2.2.2 0 (by omega); rw[oneB_ch c hc, hs] at this; cases this
  · exact decide_eq_false fun h => by have := h.2.2.1; cases this
  · exact decide_eq_true ⟨by omega, by omega, rfl, fun i hi => by obtain rfl : i = 0 := by omega
                                                                  rw[oneB_ch c hc, hs]⟩
  · exact decide_eq_false fun h => by have := h.2.2.1; cases this
theorem symC_two (c:Nat) (hc:c<256):symbolB ((⟨#[97]⟩:ByteArray)++oneB c)=symC c false:=by
 have hsz:((⟨#[97]⟩:ByteArray)++oneB c).size=2:=by rw[ByteArray.size_append];rfl
 have h0:ch ((⟨#[97]⟩:ByteArray)++oneB c) 0=97:=by rw[ch_app_l _ _ _ (by decide)];rfl
 have h1:ch ((⟨#[97]⟩:ByteArray)++oneB c) 1=c:=by rw[show 1=(⟨#[97]⟩:ByteArray).size+0 from rfl,ch_app_r,oneB_ch c hc]
 unfold symbolB symC
 rw[hsz,h0]
 cases hs:nsym c
 ·exact decide_eq_false fun h=>by have:=h.2.2.2 1 (by omega);rw[h1,hs] at this;cases this
 ·have:(true && !(ndig c&&false))=true:=by simp
  rw[this]
  refine decide_eq_true ⟨by omega,by omega,by decide,fun i hi=>?_⟩
  have:i=0\/i=1:=by omega
  rcases this with rfl|rfl
  ·rw[h0];decide
  ·rw[h1,hs]
theorem letter21 (c:Nat) (hc:c<256) (x:Bool) (w:World):Calls Tryz.prog 39 #[.int .u8 (c:Int),.bool x] w fun e w'=>e = .returned (.bool (symC c x))/\Below w.heap.size w w':=by
 have hcv:=nconv w w.heap.size c rfl
 have hb:=(Below.refl _ w).alloc (Nat.le_refl w.heap.size) (.cells #[.int .u8 (c:Int)] 5)
 cases x
 ·have cS:=rSymbol ((⟨#[97]⟩:ByteArray)++oneB c) (by rw[ByteArray.size_append,oneB_size];decide) (w.alloc (.cells #[.int .u8 (c:Int)] 5))
  rw[symC_two c hc] at cS
  go_enter Tryz.func39,Tryz.ntmps39
  go_wp2_with (go_at_call 41;refine cS.mono ?_;rintro _ w1 ⟨rfl,h1⟩)
  go_ret
  exact⟨rfl,hb.trans (h1.mono hb.size)⟩
 ·have cS:=rSymbol (oneB c) (by rw[oneB_size];decide) (w.alloc (.cells #[.int .u8 (c:Int)] 5))
  rw[symC_one c hc] at cS
  go_enter Tryz.func39,Tryz.ntmps39
  go_wp2_with (go_at_call 41;refine cS.mono ?_;rintro _ w1 ⟨rfl,h1⟩)
  go_ret
  exact⟨rfl,hb.trans (h1.mono hb.size)⟩
end Go.Proofs.YtekpgklllfobfaaGreatDoor

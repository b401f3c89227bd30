import Derived.Test.YtekpgklllfobfaaGreatDoorK08
import Derived.Lib.Split
namespace Go.Proofs.YtekpgklllfobfaaGreatDoor
set_option maxRecDepth 1000000
set_option maxHeartbeats 16000000
open Go.ChangeShapes Go.WideShapes Go.ChangeAt Go.RowKit Go.Shelf Go.Maps
def pzL (s:ByteArray):List (ByteArray×Int):=(pathZ s).1.getD []
def pzE (s:ByteArray):Int:=match (pathZ s).1 with|some _=>0|none=>210
def pzA (s:ByteArray):Int:=match (pathZ s).1 with|some _=>0|none=>((pathZ s).2:Int)
theorem paP_len (s:ByteArray):∀ (k a:Nat) (l l':List (ByteArray×Int)) (b:Nat),a<=s.size->l.length<=a->paP s k a l=(some l',b)->l'.length<=s.size
 | 0,a,l,l',b,_,_,h=>by simp[paP] at h
 | k+1,a,l,l',b,ha,hl,h=>by
  obtain⟨h1,h2,h3⟩:=stP_ge ha
  cases hx:stP s a with
  | mk o c =>
   rw[hx] at h1 h2 h3
   cases o with
   | none=>rw[paP_none hx] at h;cases h
   | some x =>
    rw[paP_some hx] at h
    have h4:=h3 (by simp)
    simp only at h1 h2 h4
    have hlen:(l++[x]).length=l.length+1:=by simp
    unfold conP at h
    split at h
    ·injection h with e1 _
     injection e1 with e1
     rw[<- e1,hlen]
     omega
    ·split at h
     ·exact paP_len s k (c+1) (l++[x]) l' b (by omega) (by omega) h
     ·cases h
theorem pzL_len (s:ByteArray):(pzL s).length<=s.size:=by
 unfold pzL
 cases hx:pathZ s with
 | mk o c =>
  cases o with
  | none=>exact Nat.zero_le _
  | some l =>
   show l.length<=s.size
   unfold pathZ at hx
   split at hx
   ·injection hx with e1 _
    injection e1 with e1
    rw[<- e1]
    exact Nat.zero_le _
   ·exact paP_len s _ 0 [] l c (Nat.zero_le _) (Nat.le_refl _) hx
def PE (w:World) (L:List (ByteArray×Int)) (E A:Int) (e:Ending) (w':World):Prop:=∃ p c,e = .returned (.tuple #[.slice p L.length c,.int .i64 E,.int .i64 A])/\StR w' w.heap.size (.slice p L.length c) L/\Below w.heap.size w w'
theorem PathR (s:ByteArray) (hs:s.size<=1048576) (w:World):Calls Tryz.prog 23 #[.string s] w (PE w (pzL s) (pzE s) (pzA s)):=by
 obtain⟨o,b0,hp⟩:∃ o b0,pathZ s=(o,b0):=⟨_,_,rfl⟩
 refine(Path21 s hs w hp).mono fun e w' h=>?_
 obtain⟨h0,⟨rfl,rfl⟩|⟨l,v,rfl,rfl,h1⟩⟩:=h
 ·exact⟨none,0,by simp[pzL,pzE,pzA,hp],by simp only[pzL,hp];exact World.ownsRow_nil _ _ _ 2,h0⟩
 ·obtain⟨pv,cv,rfl⟩:=str_shape h1
  exact⟨pv,cv,by simp[pzL,pzE,pzA,hp],by simp only[pzL,hp];exact h1,h0⟩
theorem PathP (s:ByteArray) (hs:s.size<=1048576) (w:World):Calls Tryz.prog 31 #[.string s] w (PE w (pzL s) (pzE s) (pzA s)):=by
 obtain⟨o,b0,hp⟩:∃ o b0,pathZ s=(o,b0):=⟨_,_,rfl⟩
 cases o with
 | none =>
  refine(Path_no w s hs hp).mono fun e w' h=>?_
  obtain⟨rfl,h0⟩:=h
  exact⟨none,0,by simp[pzL,pzE,pzA,hp],by simp only[pzL,hp];exact World.ownsRow_nil _ _ _ 2,h0⟩
 | some l =>
  refine(Path_ok w s hs hp).mono fun e w' h=>?_
  obtain⟨v,rfl,h1,h0⟩:=h
  obtain⟨pv,cv,rfl⟩:=str_shape h1
  exact⟨pv,cv,by simp[pzL,pzE,pzA,hp],by simp only[pzL,hp];exact h1,h0⟩
def txT (l:List (ByteArray×Int)):ByteArray:=(textZ l).getD ⟨#[]⟩
def txE (l:List (ByteArray×Int)):Int:=match textZ l with|some _=>0|none=>210
theorem TE.one {w:World} {l:List (ByteArray×Int)} {e:Ending} {w':World} (h:TE w l e w'):e = .returned (.tuple #[.string (txT l),.int .i64 (txE l)])/\Below w.heap.size w w':=by
 obtain⟨h0,⟨t,h1,rfl⟩|⟨h1,rfl⟩⟩:=h
 ·exact⟨by simp[txT,txE,h1],h0⟩
 ·exact⟨by simp[txT,txE,h1],h0⟩
theorem StR.sp {W:World} {B:Nat} {p:Option Addr} {c:Nat} {L:List (ByteArray×Int)} (h:StR W B (.slice p L.length c) L):SpRow W p W.heap.size L :=
 ⟨fun i x hx=>by
  have hi:=(List.getElem?_eq_some_iff.1 hx).1
  obtain⟨g,c',e⟩:=own_slic h (by omega)
  injection e with e1 _ e2
  subst e1 e2
  have hs:=spL_get L i x hx
  refine⟨g,0,rfl,(World.ownsRow.lt h g rfl).2,?_,?_⟩
  ·rw[Nat.zero_add];exact ownC h hs.1
  ·rw[Nat.zero_add];exact ownC h hs.2⟩
theorem own_setP {W:World} {B z n m c g:Nat} {ty:TypeId} {xs:List Value} (h:W.ownsRow B ty z (.slice (some ⟨g,0,none⟩) m c) n xs) (i:Nat) (u:Value) (hi:i<n*z):(W.setCell ⟨g,i,none⟩ u).ownsRow B ty z (.slice (some ⟨g,0,none⟩) m c) n (xs.set i u)/\(∃ y,xs[i]?=some y/\W.cell? ⟨g,i,none⟩=some y)/\W.frozen? ⟨g,i,none⟩=false/\B<=g/\g<W.heap.size:=by
 rcases h.2 with ⟨e0,_⟩|⟨g',cap',cur,e1,h1,h2,h3,h4,h5,h6⟩
 ·cases e0
 ·cases e1
  have hlt:=(Array.getElem?_eq_some_iff.1 h2).1
  refine⟨⟨by rw[List.length_set];exact h.1,.inr ⟨g,c,cur.setIfInBounds i u,rfl,h1,set_at h2 _,h3,h4,by simpa using h5,?_⟩⟩,?_,frz_at h2,h1,hlt⟩
  ·rw[Array.toList_setIfInBounds,List.take_set,h6]
  ·have hx:i<xs.length:=by rw[h.1];exact hi
   refine⟨xs[i],List.getElem?_eq_getElem hx,?_⟩
   have e:xs[i]?=some xs[i]:=List.getElem?_eq_getElem hx
   rw[cell_at h2]
   conv at e=>lhs;rw[<- h6]
   rw[List.getElem?_take,if_pos hi,Array.getElem?_toList] at e
   exact e
def cS (s:ByteArray):Value:=.string s
def SRow (W:World) (base:Nat) (v:Value) (ss:List ByteArray):Prop:=W.ownsRow base 9 1 v ss.length (ss.map cS)
theorem infoStr:(Tryz.prog.info? 9).map (fun i=>(i.zero,i.size,i.bytes))=some (some (.string ⟨#[]⟩),1,16):=by kernel_rfl
theorem SRow.below {W W':World} {base:Nat} {v:Value} {ss:List ByteArray} (h:SRow W base v ss) (hb:Below W.heap.size W W'):SRow W' base v ss:=own_keep h hb
theorem SRow.shape {W:World} {base:Nat} {v:Value} {ss:List ByteArray} (h:SRow W base v ss):∃ pp cp,v = .slice pp ss.length cp/\ss.length<=cp/\∀ (i:Nat) (s:ByteArray),ss[i]?=some s->∃ g,pp=some ⟨g,0,none⟩/\base<=g/\g<W.heap.size/\W.cell? ⟨g,i,none⟩=some (.string s):=by
 rcases h.2 with ⟨hv,hn⟩|⟨g,cap,cur,hv,hbs,hg,hc,_,hs,ht⟩
 ·refine⟨none,0,by rw[hv,hn],by omega,fun i n hi=>?_⟩
  rw[List.eq_nil_of_length_eq_zero hn] at hi
  cases hi
 ·refine⟨_,_,hv,hc,fun i n hi=>⟨g,rfl,hbs,(Array.getElem?_eq_some_iff.1 hg).1,?_⟩⟩
  have hi2:(ss.map cS)[i]?=some (.string n):=by rw[List.getElem?_map,hi];rfl
  rw[<- ht] at hi2
  rw[List.getElem?_take] at hi2
  split at hi2
  ·simp only[World.cell?,hg]
   rw[<- hi2,Array.getElem?_toList]
   rfl
  ·cases hi2
theorem SRow.new (W:World) (ss:List ByteArray) (h0:ss.length<=8):SRow (W.alloc (.cells (ss.map cS).toArray 9)) W.heap.size (.slice (some ⟨W.heap.size,0,none⟩) ss.length ss.length) ss :=
 ⟨by rw[List.length_map,Nat.mul_one],.inr ⟨W.heap.size,ss.length,(ss.map cS).toArray,rfl,Nat.le_refl _,thnK _ _,Nat.le_refl _,by unfold maxLen;omega,by simp,by rw[List.toList_toArray,List.take_of_length_le (by simp)]⟩⟩
theorem str_ap {W:World} {base:Nat} {v:Value} {ss:List ByteArray} (h:SRow W base v ss) (ad:Addr) (cs:List ByteArray) (cap:Nat) (hN:∀ (j:Nat) u,cs[j]?=some u->W.cell? (ad.add j)=some (.string u)) (hl:ss.length+cs.length<=1000000000000) (hb:base<=W.heap.size) :
  ∃ v' w',(∀ ty,(Builtin.append_ #[22,22] ty #[v,.slice (some ad) cs.length cap]).run Tryz.prog W = .ok v' w')/\(SRow w' base v' (ss++cs)/\Below base W w'/\∀ j,j<W.heap.size->v.ownBlock≠some j->w'.heap[j]?=W.heap[j]?):=by
 obtain⟨i0,hi,hz⟩:=Option.map_eq_some_iff.1 infoStr
 simp only[Prod.mk.injEq] at hz
 have hr:=run_append_own_at (P:=Tryz.prog) W base 22 0 9 i0 _ 1 16 Tryz.underlying22 hi hz.1 hz.2.1 hz.2.2 rfl (by decide) v ss.length (ss.map cS) h ad cs.length cap (cs.map cS) (by rw[List.length_map,Nat.mul_one]) (fun j u hu=>by
   rw[List.getElem?_map] at hu
   obtain⟨s,hs,rfl⟩:=Option.map_eq_some_iff.1 hu
   exact hN j s hs) (fun u hu=>by obtain⟨s,_,rfl⟩:=List.mem_map.1 hu;rfl) (by simp only[maxLen];omega) (by omega) (by omega)
 obtain⟨v',w',h2,h3,h4,_⟩:=hr
 refine⟨v',w',fun _=>h2,?_,⟨h4.os,h4.tape,h4.output,h4.size,fun j hj=>h4.block j (by omega) fun e=>by have:=(h.lt j e.symm).1;omega⟩,fun j hj hn=>h4.block j hj fun e=>hn e.symm⟩
 unfold SRow
 rw[List.length_append,List.map_append]
 exact h3
def cutP (s:ByteArray):Nat->List ByteArray×ByteArray
 | 0=>([],⟨#[]⟩)
 | i+1=>if ch s i=32 then ((cutP s i).1++[(cutP s i).2],⟨#[]⟩) else ((cutP s i).1,(cutP s i).2++s.extract i (i+1))
def cutL (s:ByteArray):List ByteArray:=(cutP s s.size).1++[(cutP s s.size).2]
theorem cutP_len (s:ByteArray):∀ i,(cutP s i).1.length<=i/\(cutP s i).2.size<=i
 | 0=>⟨Nat.le_refl _,Nat.le_refl _⟩
 | i+1=>by
  have h:=cutP_len s i
  rw[cutP]
  split
  ·exact⟨by simp;omega,Nat.zero_le _⟩
  ·refine⟨by simp;omega,?_⟩
   simp only[ByteArray.size_append,ByteArray.size_extract]
   omega
theorem SRow.dr {W:World} {base:Nat} {v:Value} {ss:List ByteArray} (h:SRow W base v ss):SRow W.drew base v ss:=h.below (Below.refl _ _).drew
theorem SRow.last {W:World} {base:Nat} {v:Value} {P:List ByteArray} {L:ByteArray} (h:SRow W base v (P++[L])):∃ g cp,v = .slice (some ⟨g,0,none⟩) (P.length+1) cp/\P.length+1<=cp/\base<=g/\g<W.heap.size/\W.cell? ⟨g,P.length,none⟩=some (.string L):=by
 obtain⟨pp,cp,hv,hc,hs⟩:=h.shape
 obtain⟨g,rfl,h1,h2,h3⟩:=hs P.length L (by simp)
 rw[List.length_append,List.length_singleton] at hv hc
 exact⟨g,cp,hv,hc,h1,h2,h3⟩
theorem SRow.put {W:World} {base g cp:Nat} {P:List ByteArray} {L:ByteArray} (h:SRow W base (.slice (some ⟨g,0,none⟩) (P.length+1) cp) (P++[L])) (u:ByteArray):SRow (W.setCell ⟨g,P.length,none⟩ (.string u)) base (.slice (some ⟨g,0,none⟩) (P.length+1) cp) (P++[u])/\W.frozen? ⟨g,P.length,none⟩=false/\Below base W (W.setCell ⟨g,P.length,none⟩ (.string u)):=by
 have h2:=h
 unfold SRow at h2
 obtain⟨r,-,f,hb,hs⟩:=own_setP h2 P.length (.string u) (by simp)
 refine⟨?_,f,(Below.refl _ _).setCell (p:=⟨g,P.length,none⟩) hb _⟩
 unfold SRow
 have e:((P++[L]).map cS).set P.length (.string u)=(P++[u]).map cS:=by
  rw[List.map_append,List.map_append,List.set_append_right _ _ (by simp)]
  simp[cS]
 rw[e] at r
 simpa using r
theorem st_str {W:World} {b i:Nat} {v:Value} {u:ByteArray} (h:W.cell? ⟨b,i,none⟩=some v) (hf:W.frozen? ⟨b,i,none⟩=false):(Instr.storeAt 9 (.pointer (some ⟨b,i,none⟩)) (.string u)).run Tryz.prog W = .ok () (W.setCell ⟨b,i,none⟩ (.string u)):=by
 simp[go_sem,h,hf]
theorem one_ap {wr:World} {base:Nat} {v:Value} {ss:List ByteArray} (x:ByteArray) (h:SRow wr base v ss) (hl:ss.length+1<=1000000000000) (hb:base<=wr.heap.size) :
  ∃ v' w',(∀ ty,(Builtin.append_ #[22,22] ty #[v,.slice (some ⟨wr.heap.size,0,none⟩) 1 1]).run Tryz.prog (wr.alloc (.cells #[.string x] 9)) = .ok v' w')/\(SRow w' base v' (ss++[x])/\Below base wr w'):=by
 obtain⟨v',w',e1,e2,e3,-⟩:=str_ap (h.below (nbel wr (.cells #[.string x] 9))) ⟨wr.heap.size,0,none⟩ [x] 1 (fun i u hu=>World.news_of_block (thnK wr (.cells #[.string x] 9)) i (.string u) (by
  cases i with
  | zero=>simpa using hu
  | succ i=>simp at hu)) (by simp;omega) (by rw[World.size_alloc];omega)
 exact⟨v',w',e1,e2,((nbel wr _).mono hb).trans e3⟩
theorem rcut22 (W:World) (s:ByteArray) (hs:s.size<=549755813888) :
  Calls Tryz.prog 19 #[.string s] W fun e W'=>∃ v,e = .returned v/\SRow W' W.heap.size v (cutL s)/\Below W.heap.size W W':=by
 obtain⟨W0,hW0⟩:∃ W0,W0=W.alloc (.cells ([⟨#[]⟩].map cS).toArray 9):=⟨_,rfl⟩
 have r0:SRow W0 W.heap.size (.slice (some ⟨W.heap.size,0,none⟩) 1 1) [⟨#[]⟩]:=hW0▸SRow.new W [⟨#[]⟩] (by simp)
 have b0:Below W.heap.size W W0:=hW0▸nbel W _
 have hW:_=W0:=hW0.symm
 simp only[List.map_cons,List.map_nil,cS] at hW
 replace r0:Go.RowKit.Hid (SRow _ _ _ _):=r0
 replace b0:Go.RowKit.Hid (Below _ _ _):=b0
 clear hW0
 go_enter Tryz.func19,Tryz.ntmps19
 go_wp2_with fail
 go_loopw [3,4] (fun v q wr=>∃ i:Nat,q = .int .i64 (i:Int)/\i<=s.size/\Go.RowKit.Hid (SRow wr W.heap.size v ((cutP s i).1++[(cutP s i).2]))/\Go.RowKit.Hid (Below W.heap.size W wr)) (fun _ q _=>s.size-(RowKit.intOf q).toNat)
 case atStart=>exact⟨0,rfl,Nat.zero_le _,r0,b0⟩
 case round =>
  clear hW r0 b0
  obtain⟨i,rfl,hi,hR,hB⟩:=hrel
  have hln:=cutP_len s i
  by_cases hlt:i<s.size
  ·have l1:decide ((i:Int)<(s.size:Int))=true:=by simp;omega
   have ix:∀ w:World,(Instr.index 9 (.string s) (.int .i64 (i:Int))).run Tryz.prog w = .ok (.int .u8 (ch s i:Int)) w:=fun w=>idx (w:=w) s i hlt .i64
   by_cases hc:ch s i=32
   ·have hap:Go.RowKit.Hid _:=one_ap ⟨#[]⟩ hR (by simp;omega) hB.size
    have hcI:(ch s i:Int)=32:=by omega
    rw[hcI] at ix
    have hZ:Go.RowKit.Hid ((cutP s (i+1)).1++[(cutP s (i+1)).2]=(cutP s i).1++[(cutP s i).2]++[⟨#[]⟩]):=by show _=_;rw[cutP,if_pos hc]
    clear hR hc
    go_wp2_with (at_builtin;go_must (refine(ap_step (by rfl) _ _ _ _ (by rfl) _ _ (by rfl) (by rfl) _ hap.out ?_));rintro v' w' ⟨q1,q2⟩;replace q1:Go.RowKit.Hid (SRow _ _ _ _):=q1;replace q2:Go.RowKit.Hid (Below _ _ _):=q2)
    go_roundw
    case rel=>exact⟨i+1,by go_num,by omega,by rw[hZ.out];exact q1,hB.trans q2⟩
    case measure=>simp[RowKit.intOf];omega
   ·have c1:((ch s i:Int)==32)=false:=beq_eq_false_iff_ne.2 (by omega)
    have hZ:Go.RowKit.Hid ((cutP s (i+1)).1++[(cutP s (i+1)).2]=(cutP s i).1++[(cutP s i).2++s.extract i (i+1)]):=by show _=_;rw[cutP,if_neg hc]
    obtain⟨P,hP⟩:∃ P,(cutP s i).1=P:=⟨_,rfl⟩
    obtain⟨L,hL⟩:∃ L,(cutP s i).2=L:=⟨_,rfl⟩
    rw[hP,hL] at hln hR hZ
    obtain⟨g,cp,rfl,hcp,hg,hgs,kc⟩:=SRow.last hR
    have kd:Go.RowKit.Hid (∀ V,Below wr.heap.size wr V->V.cell? ⟨g,P.length,none⟩=some (.string L)):=fun V hV=>by rw[hV.cell (by exact hgs)];exact kc
    obtain⟨p,p0,pN,kc⟩:∃ p:World->Prop,p wr.drew/\Nonempty (CW p)/\(∀ θ:CW p,θ.w.cell? ⟨g,P.length,none⟩=some (.string L)):=⟨fun V=>Below wr.heap.size wr V,(Below.refl _ _).drew,⟨⟨wr,Below.refl _ _⟩⟩,fun θ=>kd.out _ θ.h⟩
    have hput:=SRow.put (SRow.dr hR) (L++s.extract i (i+1))
    have hst:Go.RowKit.Hid _:=st_str (u:=L++s.extract i (i+1)) (kd.out _ (Below.refl _ _).drew) hput.2.1
    have hput2:Go.RowKit.Hid (SRow _ _ _ _/\Below _ _ _):=⟨hput.1,hput.2.2⟩
    clear hR kd hput hc hP hL
    go_wp2_with fail
    refine wp_region_lw 17 (fun V=>∃ θ:CW p,V=θ.w) (by kernel_rfl) (by kernel_rfl) (fun _ _ d _ _ h=>by cases d<;>exact h) ⟨⟨_,p0⟩,rfl⟩ ?_
    repeat (refine lw_one rfl ?_;(first|go_big_quiet_skip|(go_big_quiet_want;go_big_quiet_op;go_big_quiet_on));refine wpQuiet_nil ?_)
    refine lw_st hst.out rfl rfl (by rfl) ?_
    simp only[pts]
    go_wp2_with fail
    go_roundw
    case rel=>exact⟨i+1,by go_num,by omega,by rw[hZ.out];exact hput2.1,Below.trans hB (Below.trans (Below.refl _ _).drew hput2.2)⟩
    case measure=>simp[RowKit.intOf];omega
  ·obtain rfl:i=s.size:=by omega
   have l1:decide ((s.size:Int)<(s.size:Int))=false:=by simp
   go_wp2_with fail
   go_ret
   exact⟨_,rfl,hR,hB⟩
def cutR:List UInt8->List (List UInt8)
 | []=>[[]]
 | c::r=>if c=32 then []::cutR r else match cutR r with
  | []=>[[c]]
  | p::q=>(c::p)::q
theorem cutR_ne:∀ l,cutR l≠[]
 | []=>by simp[cutR]
 | c::r=>by
  rw[cutR]
  split
  ·simp
  ·split<;>simp
def blN:List UInt8->Nat
 | []=>0
 | c::r=>(if c=32 then 1 else 0)+blN r
theorem blN_le:∀ l:List UInt8,blN l<=l.length
 | []=>Nat.le_refl _
 | c::r=>by
  have:=blN_le r
  rw[blN,List.length_cons]
  split<;>omega
theorem cutR_len:∀ l,(cutR l).length=blN l+1
 | []=>rfl
 | c::r=>by
  have h:=cutR_len r
  rw[cutR,blN]
  split
  ·rw[List.length_cons,h];omega
  ·split
   ·rename_i e
    exact absurd e (cutR_ne r)
   ·rename_i e
    rw[e] at h
    rw[List.length_cons] at h ⊢
    omega
theorem cutR_snoc:∀ (l P:List UInt8) (c:UInt8) (Q:List (List UInt8)),cutR l=Q++[P]->cutR (l++[c])=if c=32 then Q++[P]++[[]] else Q++[P++[c]]
 | [],P,c,Q,h=>by
  rw[cutR] at h
  have:Q=[]/\P=[]:=by
   cases Q with
   | nil=>simp at h;exact⟨rfl,h⟩
   | cons a b=>simp at h
  obtain⟨rfl,rfl⟩:=this
  simp[cutR]
 | d::r,P,c,Q,h=>by
  rw[List.cons_append,cutR]
  rw[cutR] at h
  by_cases hd:d=32
  ·rw[if_pos hd] at h ⊢
   cases Q with
   | nil =>
    injection h with h1 h2
    exact absurd h2 (cutR_ne r)
   | cons a b =>
    injection h with h1 h2
    rw[cutR_snoc r P c b h2,<- h1]
    split<;>rfl
  ·rw[if_neg hd] at h ⊢
   cases hr:cutR r with
   | nil=>exact absurd hr (cutR_ne r)
   | cons p q =>
    rw[hr] at h
    simp only at h
    cases Q with
    | nil =>
     injection h with h1 h2
     have hp:cutR r=[]++[p]:=by rw[hr,h2];rfl
     rw[cutR_snoc r p c [] hp,<- h1]
     by_cases hc:c=32
     ·rw[if_pos hc,if_pos hc];rfl
     ·rw[if_neg hc,if_neg hc];rfl
    | cons a b =>
     injection h with h1 h2
     have hp:cutR r=(p::b)++[P]:=by rw[hr,h2];rfl
     rw[cutR_snoc r P c (p::b) hp,<- h1]
     by_cases hc:c=32
     ·rw[if_pos hc,if_pos hc];rfl
     ·rw[if_neg hc,if_neg hc];rfl
theorem sK_zero (s:List UInt8):Lib.splitK [32] 0 0 s=[s]:=rfl
theorem idx_cons (c:UInt8) (r:List UInt8):Lib.index (c::r) [32]=if c=32 then 0 else if Lib.index r [32] == -1 then -1 else Lib.index r [32]+1:=by
 rw[Lib.index]
 have:([32]:List UInt8).isPrefixOf (c::r)=decide (c=32):=by
  by_cases h:c=32
  ·rw[decide_eq_true h,h];rfl
  ·rw[decide_eq_false h]
   simp[List.isPrefixOf,Ne.symm h]
 rw[this]
 by_cases h:c=32
 ·rw[if_pos (by simpa using h),if_pos h]
 ·rw[if_neg (by simpa using h),if_neg h]
theorem sK_cons (k:Nat) (c:UInt8) (r:List UInt8):Lib.splitK [32] 0 (k+1) (c::r)=if c=32 then []::Lib.splitK [32] 0 k r else match Lib.splitK [32] 0 (k+1) r with
  | []=>[[c]]
  | p::q=>(c::p)::q:=by
 have hg:=Lib.index_ge r [32]
 rw[Lib.splitK,idx_cons]
 by_cases h:c=32
 ·rw[if_pos h,if_pos h]
  simp
 ·rw[if_neg h,if_neg h]
  by_cases h2:Lib.index r [32] = -1
  ·have hb:(Lib.index r [32] == -1)=true:=beq_iff_eq.2 h2
   have e:Lib.splitK [32] 0 (k+1) r=[r]:=by rw[Lib.splitK,if_pos (beq_iff_eq.2 h2)]
   rw[e,if_pos hb]
   rfl
  ·have hb:¬ (Lib.index r [32] == -1)=true:=fun e=>h2 (beq_iff_eq.1 e)
   obtain⟨i,hi⟩:∃ i:Nat,Lib.index r [32]=i:=⟨(Lib.index r [32]).toNat,by omega⟩
   have e:Lib.splitK [32] 0 (k+1) r=r.take i::Lib.splitK [32] 0 k (r.drop (i+1)):=by
    rw[Lib.splitK,if_neg hb,hi]
    rfl
   have hb2:¬ ((i:Int)+1 == -1)=true:=fun e=>by have:=beq_iff_eq.1 e;omega
   rw[e,if_neg hb,hi,if_neg hb2]
   have e2:((i:Int)+1).toNat=i+1:=by omega
   rw[e2]
   rfl
theorem sK_all:∀ (l:List UInt8) (k:Nat),(blN l<=k->Lib.splitK [32] 0 k l=cutR l)/\(k<blN l->(Lib.splitK [32] 0 k l).length=k+1)
 | [],k=>by
  refine⟨fun _=>?_,fun h=>absurd h (Nat.not_lt_zero _)⟩
  cases k<;>rfl
 | c::r,0=>by
  refine⟨fun h=>?_,fun _=>rfl⟩
  rw[blN] at h
  have hc:¬ c=32:=fun e=>by rw[if_pos e] at h;omega
  have h2:=(sK_all r 0).1 (by omega)
  rw[sK_zero] at h2
  rw[sK_zero,cutR,if_neg hc,<- h2]
 | c::r,k+1=>by
  rw[sK_cons,cutR,blN]
  by_cases hc:c=32
  ·have h2:=sK_all r k
   simp only[if_pos hc]
   exact⟨fun h=>by rw[h2.1 (by omega)],fun h=>by rw[List.length_cons,h2.2 (by omega)]⟩
  ·have h2:=sK_all r (k+1)
   simp only[if_neg hc]
   refine⟨fun h=>by rw[h2.1 (by omega)],fun h=>?_⟩
   have h3:=h2.2 (by omega)
   split
   ·rename_i e
    rw[e] at h3
    simp at h3
   ·rename_i e
    rw[e] at h3
    simpa using h3
theorem map_data_inj:∀ {a b:List ByteArray},a.map (·.data.toList)=b.map (·.data.toList)->a=b
 | [],[],_=>rfl
 | [],_::_,h=>by simp at h
 | _::_,[],h=>by simp at h
 | x::a,y::b,h=>by
  simp only[List.map_cons,List.cons.injEq] at h
  rw[ba_ext h.1,map_data_inj h.2]
theorem byte_ch {s:ByteArray} {i:Nat} {c:UInt8} (h:s.data.toList[i]?=some c):ch s i=c.toNat:=by
 unfold ch
 rw[List.getD,h]
 rfl
theorem cutP_R (s:ByteArray):∀ i,i<=s.size->cutR (s.data.toList.take i)=(cutP s i).1.map (·.data.toList)++[(cutP s i).2.data.toList]
 | 0,_=>rfl
 | i+1,h=>by
  have hi:i<s.data.toList.length:=by rw[tl_len];omega
  obtain⟨c,hc⟩:∃ c,s.data.toList[i]?=some c:=⟨s.data.toList[i],List.getElem?_eq_getElem hi⟩
  have hb:=byte_ch hc
  rw[List.take_add_one,hc]
  show cutR (s.data.toList.take i++[c])=_
  rw[cutR_snoc _ _ c _ (cutP_R s i (by omega)),cutP]
  by_cases h32:ch s i=32
  ·have h33:c=32:=by rw[hb] at h32;exact UInt8.toNat_inj.1 h32
   rw[if_pos h33,if_pos h32]
   simp
  ·have h33:¬ c=32:=fun e=>h32 (by rw[hb,e];rfl)
   rw[if_neg h33,if_neg h32,ByteArray.data_append,Array.toList_append,list_ext]
   have e:(s.data.toList.drop i).take (i+1-i)=[c]:=by
    rw[Nat.add_sub_cancel_left,<- List.getElem_cons_drop hi,(List.getElem?_eq_some_iff.1 hc).2]
    rfl
   rw[e]
theorem cutL_R (s:ByteArray):(cutL s).map (·.data.toList)=cutR s.data.toList:=by
 have h:=cutP_R s s.size (Nat.le_refl _)
 have e:s.data.toList.take s.size=s.data.toList:=List.take_of_length_le (by rw[tl_len];exact Nat.le_refl _)
 rw[e] at h
 rw[h]
 unfold cutL
 rw[List.map_append]
 rfl
abbrev spS:ByteArray:=⟨#[32]⟩
theorem split_cut (s:ByteArray):let D:=Lib.splitB spS 0 (min 6 (s.size+1)-1) s
  (D.length=5/\D=cutL s)\/(D.length≠5/\(cutL s).length≠5):=by
 intro D
 have hD:D.map (·.data.toList)=Lib.splitK [32] 0 (min 6 (s.size+1)-1) s.data.toList:=Lib.splitB_data spS 0 _ s
 have hC:=cutL_R s
 have hl:=cutR_len s.data.toList
 have hb:=blN_le s.data.toList
 rw[tl_len] at hb
 obtain⟨h1,h2⟩:=sK_all s.data.toList (min 6 (s.size+1)-1)
 have hCl:(cutL s).length=blN s.data.toList+1:=by
  have:=congrArg List.length hC
  rw[List.length_map,hl] at this
  exact this
 by_cases h:blN s.data.toList<=min 6 (s.size+1)-1
 ·have e:D=cutL s:=map_data_inj (by rw[hD,h1 h,hC])
  by_cases h5:D.length=5
  ·exact .inl ⟨h5,e⟩
  ·exact .inr ⟨h5,by rw[<- e];exact h5⟩
 ·have h3:=h2 (by omega)
  have hDl:D.length=min 6 (s.size+1)-1+1:=by
   have:=congrArg List.length hD
   rw[List.length_map,h3] at this
   exact this
  exact .inr ⟨by omega,by omega⟩
abbrev kd0:ByteArray:=⟨#[104,101,97,100]⟩
abbrev kd1:ByteArray:=⟨#[102,105,101,108,100]⟩
abbrev kd2:ByteArray:=⟨#[112,97,100]⟩
abbrev kd3:ByteArray:=⟨#[100,105,109]⟩
abbrev kd4:ByteArray:=⟨#[108,101,110,103,116,104]⟩
abbrev kd5:ByteArray:=⟨#[100,97,116,97]⟩
def kdL:List ByteArray:=[kd0,kd1,kd2,kd3,kd4,kd5]
def kdB (s:ByteArray):Bool:=decide (s.data.toList∈kdL.map (·.data.toList))
theorem kdB_yes {s:ByteArray} (h:s∈kdL):kdB s=true:=decide_eq_true (List.mem_map_of_mem h)
theorem kdB_no {s:ByteArray} (h:¬ s∈kdL):kdB s=false:=decide_eq_false fun hm=>by
 obtain⟨x,hx,e⟩:=List.mem_map.1 hm
 exact h (by rw[<- ba_ext e];exact hx)
structure KdTb (w:World):Prop where
 pos:0<w.heap.size
 c:∀ (i:Nat) s,kdL[i]?=some s->w.cell? ⟨0,i,none⟩=some (.string s)
theorem KdTb.below {w w':World} (h:KdTb w) (hb:Below w.heap.size w w'):KdTb w' :=
 ⟨Nat.lt_of_lt_of_le h.pos hb.size,fun i s hs=>(hb.cell (p:=⟨0,i,none⟩) h.pos).trans (h.c i s hs)⟩
theorem beq_bb {a b:ByteArray} (h:a≠b):(a.toList==b.toList)=false :=
 beq_eq_false_iff_ne.2 fun e=>h (by
  rw[ByteArray.toList_eq,ByteArray.toList_eq] at e
  exact ByteArray.ext (Array.toList_inj.1 e))
theorem idx6 (j:Nat) (x:ByteArray) (hx:kdL[j]?=some x) (W:World):(Instr.index 61 (.agg #[.string kd0,.string kd1,.string kd2,.string kd3,.string kd4,.string kd5]) (.int .i64 (j:Int))).run Tryz.prog W = .ok (.string x) W:=by
 have hj:=(List.getElem?_eq_some_iff.1 hx).1
 have h6:j=0\/j=1\/j=2\/j=3\/j=4\/j=5:=by simp[kdL] at hj;omega
 rcases h6 with rfl|rfl|rfl|rfl|rfl|rfl<;>(injection hx with hx;subst hx;rfl)
theorem isName_any (s:ByteArray) (w:World) (h:KdTb w):Calls Tryz.prog 16 #[.string s] w fun r w'=>r = .returned (.bool (kdB s))/\w'=w:=by
 have n0:=h.c 0 _ rfl
 have n1:=h.c 1 _ rfl
 have n2:=h.c 2 _ rfl
 have n3:=h.c 3 _ rfl
 have n4:=h.c 4 _ rfl
 have n5:=h.c 5 _ rfl
 clear h
 go_enter Tryz.func16,Tryz.ntmps16
 go_wp2_with fail
 go_loop [6] (fun q=>∃ i:Nat,q = .int .i64 (i:Int)/\i<=6/\∀ (j:Nat) x,j<i->kdL[j]?=some x->s≠x) (fun q=>6-(RowKit.intOf q).toNat)
 case atStart=>exact⟨0,rfl,by omega,fun j x hj=>absurd hj (Nat.not_lt_zero _)⟩
 case round =>
  obtain⟨i,rfl,hi,hI⟩:=hrel
  by_cases hlt:i<6
  ·obtain⟨x,hx⟩:∃ x,kdL[i]?=some x:=⟨kdL[i]'(by simpa[kdL] using hlt),List.getElem?_eq_getElem _⟩
   have ix:=fun W=>idx6 i x hx W
   have l1:decide ((i:Int)<6)=true:=by simp;omega
   by_cases he:s=x
   ·have hB:Go.RowKit.Hid (kdB s=true):=kdB_yes (by rw[he];exact List.mem_of_getElem? hx)
    have e1:(s.toList==x.toList)=true:=by rw[he];simp
    clear hI he hx n0 n1 n2 n3 n4 n5
    go_wp2_with fail
    go_ret
    exact⟨by rw[hB.out];rfl,rfl⟩
   ·have e1:=beq_bb he
    have hI2:Go.RowKit.Hid (∀ (j:Nat) y,j<i+1->kdL[j]?=some y->s≠y):=fun j y hj hy=>by
     by_cases e:j=i
     ·rw[e,hx] at hy
      injection hy with hy
      rw[<- hy]
      exact he
     ·exact hI j y (by omega) hy
    clear hI he hx n0 n1 n2 n3 n4 n5
    go_wp2_with fail
    go_round
    case rel=>exact⟨i+1,by go_num,by omega,hI2⟩
    case measure=>simp[RowKit.intOf];omega
  ·obtain rfl:i=6:=by omega
   have hB:Go.RowKit.Hid (kdB s=false):=by
    refine kdB_no fun hm=>?_
    obtain⟨j,hj⟩:=List.getElem?_of_mem hm
    exact hI j s (by have:=(List.getElem?_eq_some_iff.1 hj).1;simpa[kdL] using this) hj rfl
   clear hI
   go_wp2_with fail
   go_ret
   exact⟨by rw[hB.out];rfl,rfl⟩
theorem ext_le (s:ByteArray) (a b:Nat):(s.extract a b).size<=s.size:=by rw[ByteArray.size_extract];omega
theorem stP_sz {s:ByteArray} {a c:Nat} {x:ByteArray×Int} (h:stP s a=(some x,c)):x.1.size<=s.size:=by
 unfold stP at h
 split at h
 ·cases h
 ·split at h
  ·split at h
   ·cases h
   ·injection h with h _
    injection h with h
    rw[<- h]
    exact ext_le _ _ _
  ·injection h with h _
   injection h with h
   rw[<- h]
   exact ext_le _ _ _
theorem paP_sz (s:ByteArray):∀ (k a:Nat) (l l':List (ByteArray×Int)) (b:Nat),(∀ x∈l,x.1.size<=s.size)->paP s k a l=(some l',b)->∀ x∈l',x.1.size<=s.size
 | 0,a,l,l',b,_,h=>by simp[paP] at h
 | k+1,a,l,l',b,hl,h=>by
  cases hx:stP s a with
  | mk o c =>
   cases o with
   | none=>rw[paP_none hx] at h;cases h
   | some x =>
    rw[paP_some hx] at h
    have h2:∀ y∈l++[x],y.1.size<=s.size:=fun y hy=>by
     rcases List.mem_append.1 hy with h3|h3
     ·exact hl y h3
     ·rw[List.mem_singleton.1 h3];exact stP_sz hx
    unfold conP at h
    split at h
    ·injection h with e1 _
     injection e1 with e1
     rw[<- e1]
     exact h2
    ·split at h
     ·exact paP_sz s k (c+1) (l++[x]) l' b h2 h
     ·cases h
theorem pzL_sz (s:ByteArray):∀ x∈pzL s,x.1.size<=s.size:=by
 unfold pzL
 cases hx:pathZ s with
 | mk o c =>
  cases o with
  | none=>intro x h;cases h
  | some l =>
   show ∀ x∈l,x.1.size<=s.size
   unfold pathZ at hx
   split at hx
   ·injection hx with e1 _
    injection e1 with e1
    rw[<- e1]
    intro x h
    cases h
   ·exact paP_sz s _ 0 [] l c (fun x h=>by cases h) hx
abbrev mnS:ByteArray:=⟨#[45]⟩
def ptB (s:ByteArray):Bool:=(s.toList==mnS.toList)||(decide (pzE s=0)&&(!(s.toList==[]))&&(s.toList==(txT (pzL s)).toList))
theorem pzE_two (s:ByteArray):pzE s=0\/pzE s=210:=by unfold pzE;split<;>simp
theorem isPath_any (s:ByteArray) (hs:s.size<=1048576) (w:World) (tab:∀ W,Below w.heap.size w W->Tab W):Calls Tryz.prog 17 #[.string s] w fun r w'=>r = .returned (.bool (ptB s))/\Below w.heap.size w w':=by
 have cP:=PathP s hs w
 have hl:=Nat.le_trans (pzL_len s) hs
 have hz:∀ x∈pzL s,x.1.size<=1048576:=fun x hx=>Nat.le_trans (pzL_sz s x hx) hs
 have hE:=pzE_two s
 unfold ptB
 obtain⟨b0,h0⟩:∃ b,(s.toList==mnS.toList)=b:=⟨_,rfl⟩
 obtain⟨b1,h1⟩:∃ b,(s.toList==[])=b:=⟨_,rfl⟩
 obtain⟨b2,h2⟩:∃ b,(s.toList==(txT (pzL s)).toList)=b:=⟨_,rfl⟩
 rw[h0,h1,h2]
 have h0':(s.toList==[45])=b0:=by rw[<- h0,ByteArray.toList_eq mnS]
 cases b0
 ·go_enter Tryz.func17,Tryz.ntmps17
  go_wp2_with (first|(go_at_call 31;refine cP.mono ?_;clear cP;rintro _ w1 ⟨p,c,rfl,r1,j1⟩;have cT:=(Text_any (pzL s) p c w1 r1.sp hl hz (fun W h=>tab W (j1.trans (h.mono j1.size)))).mono fun _ _ h=>h.one)|(go_at_call 32;refine cT.mono ?_;clear cT;rintro _ w2 ⟨rfl,j2⟩))
  all_goals
   go_ret
   exact⟨rnb (by simp[*]),j1.trans (j2.mono j1.size)⟩
 ·go_enter Tryz.func17,Tryz.ntmps17
  go_wp2_with fail
  go_ret
  exact⟨rfl,Below.refl _ _⟩
theorem rkinds22 (W:World):Calls Tryz.prog 22 #[] W fun e W'=>∃ v,e = .returned v/\SRow W' W.heap.size v kdL/\Below W.heap.size W W':=by
 have r0:=SRow.new W kdL (by decide)
 have b0:=nbel W (.cells (kdL.map cS).toArray 9)
 have hW:W.alloc (.cells (kdL.map cS).toArray 9)=W.alloc (.cells #[.string kd0,.string kd1,.string kd2,.string kd3,.string kd4,.string kd5] 9):=rfl
 rw[hW] at r0 b0
 clear hW
 replace r0:Go.RowKit.Hid (SRow _ _ _ _):=r0
 replace b0:Go.RowKit.Hid (Below _ _ _):=b0
 go_enter Tryz.func22,Tryz.ntmps22
 go_wp2_with fail
 go_ret
 exact⟨_,rfl,r0,b0⟩
end Go.Proofs.YtekpgklllfobfaaGreatDoor

import Derived.Test.YtchfphakhmifmabGreatDoorTA3
import Derived.Test.YtchfphakhmifmabGreatDoorMV
import Derived.Test.YtchfphakhmifmabGreatDoorMY
namespace Go.Proofs.YtchfphakhmifmabGreatDoor
set_option maxRecDepth 1000000
set_option maxHeartbeats 16000000
open Go.ChangeShapes Go.WideShapes Go.ChangeAt Go.RowKit Go.Lib
theorem Rdr.fresh {W:World} {R bot:Nat} {v:Nat → Value} (h:R7 W R v) (hR:R < bot) (hB:bot ≤ W.heap.size) (h5:v 5 = .slice none 0 0) (h6:v 6 = .slice none 0 0):Rdr W R bot v ⟨[],[]⟩:=by
 refine ⟨h,hR,hB,POk.nil,fun c=>if c = 0 then opR (.slice none 0 0) [] else elR (.slice none 0 0) [],[],[],⟨⟨fun c=>?_,fun c c' _ k hk=>?_⟩,by rw [h5];rfl,by rw [h6];rfl,fun j o hj=>(by cases hj),fun i x hi=>(by cases hi)⟩,rfl,rfl⟩
 ·split
  ·exact World.ownsRow_nil _ _ _ 3
  ·exact World.ownsRow_nil _ _ _ 5
 ·split at hk <;> cases hk
def AllPost (R:Nat) (w:World) (toks:List Tok) (e:Ending) (w':World):Prop :=
 e = .returned (.tuple #[]) ∧ Kr R w.heap.size w w' ∧ ∃ v',(match takeL blankB toks ⟨[],[]⟩ with
  | .error (er,p)=>R7 w' R v' ∧ v' 4 = .int .i64 (er:Int) ∧ v' 3 = .int .i64 (p:Int) ∧ er ≠ 0
  | .ok s'=>∃ bot,w.heap.size ≤ bot ∧ Rdr w' R bot v' s' ∧ v' 4 = .int .i64 0)
theorem takeT_ne {bl:ByteArray → Bool} {s:PSt} {t:Tok} {er:Nat} (h:takeT bl s t = .error er):er ≠ 0:=by
 unfold takeT at h
 repeat' split at h
 all_goals first | (cases h;done) | (injection h with h;subst h;decide)
theorem ent_moveTo:∀ ag w,(callFunc 49 ag).run Tryz.prog w = .ok (.enter 49 ag) w:=enters_of Tryz.func49 (by kernel_rfl) rfl
abbrev fV (R k:Nat):Value:=.func (.func (fnT k)) #[.pointer (some ⟨R,0,none⟩)] #[]
abbrev takersO (R:Nat):Obj:=.cells #[fV R 0,fV R 1,fV R 2,fV R 3,fV R 4,fV R 5,fV R 6,fV R 7] 96
theorem takers_get (R k:Nat) (hk:k < 8):(#[fV R 0,fV R 1,fV R 2,fV R 3,fV R 4,fV R 5,fV R 6,fV R 7]:Array Value)[k]? = some (fV R k):=by
 match k,hk with
 | 0,_=>rfl
 | 1,_=>rfl
 | 2,_=>rfl
 | 3,_=>rfl
 | 4,_=>rfl
 | 5,_=>rfl
 | 6,_=>rfl
 | 7,_=>rfl
abbrev tokO' (t:Tok):Obj:=.cells #[.int .i64 (t.k:Int),.string t.nm,.string t.vl,.int .i64 (t.p:Int)] 67
theorem round_facts {w wr:World} {R:Nat} {v:Nat → Value} {s:PSt} {toks:List Tok} {j:Nat} {t:Tok} (hR:R < w.heap.size) (hK:Kr R (w.heap.size + 1) (w.alloc (takersO R)) wr) (h:Rdr wr R (w.heap.size + 1) v s) (h4:v 4 = .int .i64 0) (hG:Go1 blankB toks j s) (ht:toks[j]? = some t) (hj:j ≤ 1048576) (hv:t.vl.size ≤ 16777216) :
  Calls Tryz.prog 49 #[.pointer (some ⟨R,0,none⟩),.agg #[.int .i64 (t.k:Int),.string t.nm,.string t.vl,.int .i64 (t.p:Int)]] (wr.alloc (tokO' t)).drew fun e w2=>∃ u,e = .returned u ∧ (u = .tuple #[] ∧ w2.cell? ⟨wr.heap.size,0,none⟩ = some (.int .i64 (t.k:Int)) ∧ w2.cell? ⟨w.heap.size,t.k,none⟩ = some (fV R t.k) ∧
   Calls Tryz.prog (fnT t.k) #[.pointer (some ⟨R,0,none⟩)] w2 fun e w3=>e = .returned (.tuple #[]) ∧ ∃ er:Nat,Calls Tryz.prog 28 #[.pointer (some ⟨R,0,none⟩)] w3 (fun e w4=>e = .returned (.bool (decide (er ≠ 0))) ∧ ∃ n,w4 = w3.drewN n) ∧
    ((er ≠ 0 ∧ ∀ n,AllPost R w toks (.returned (.tuple #[])) (w3.drewN n)) ∨ (er = 0 ∧ ∀ n,∃ v' s',Kr R (w.heap.size + 1) (w.alloc (takersO R)) (w3.drewN n) ∧ Rdr (w3.drewN n) R (w.heap.size + 1) v' s' ∧ v' 4 = .int .i64 0 ∧ Go1 blankB toks (j + 1) s'))):=by
 have hb:=bel1 wr (tokO' t)
 have hb2:Below wr.heap.size wr (wr.alloc (tokO' t)).drew:=hb.drew
 have hwr:w.heap.size + 1 ≤ wr.heap.size:=h.hB
 refine (moveTo_any R (w.heap.size + 1) v (t.k:Int) (t.p:Int) t.nm t.vl _ (h.r7.below hb2) (Nat.le_trans h.hB hb2.size)).mono ?_
 rintro e w2 ⟨rfl,hK2,h72,hall⟩
 have hsz:(wr.alloc (tokO' t)).drew.heap.size = wr.heap.size + 1:=by show (wr.alloc (tokO' t)).heap.size = _;rw [World.size_alloc]
 have hT:w2.heap[wr.heap.size]? = some (tokO' t):=(hall _ (by omega) (by omega)).trans (theap_new wr _)
 have hB0:w2.heap[w.heap.size]? = some (takersO R):=(hall _ (by omega) (by omega)).trans ((hb2.block _ (by omega)).trans ((hK.block _ (by omega) (by omega)).trans (theap_new w _)))
 have hop:=hG.op ht
 have hK12:Kr R (w.heap.size + 1) (w.alloc (takersO R)) w2:=(hK.trans (Kr.of (hb2.mono hwr))).trans hK2
 have hr2:Rdr w2 R (w.heap.size + 1) (pcV (t.k:Int) t.nm t.vl (t.p:Int) v) s:=by
  obtain ⟨f,sx,ex,hTR,h1,h2⟩:=h.x
  exact ⟨h72,h.hR,Nat.le_trans h.hB (Nat.le_trans hb2.size hK2.size),h.ok,f,sx,ex,(hTR.keep hb2).same (fun k hk hk'=>hall k hk' (by have:=h.hR;omega)),h1,h2⟩
 refine ⟨_,rfl,rfl,by simp only [World.cell?,hT];rfl,?_,?_⟩
 ·simp only [World.cell?,hB0]
  exact takers_get R t.k hop.2
 ·refine (tTake_any R (w.heap.size + 1) _ s t w2 hr2 rfl rfl rfl h4 hop.1 hv (fun e he=>Nat.le_trans (hG.tx e he) (by omega))).mono ?_
  rintro e w3 ⟨rfl,hK3,v3,hv3,hz⟩
  refine ⟨rfl,?_⟩
  have hK13:=hK12.trans hK3
  have hBw:Kr R w.heap.size w w3:=⟨hK13.os,hK13.tape,hK13.output,Nat.le_trans (bel1 w (takersO R)).size hK13.size,fun k hk hn=>(hK13.block k (by omega) hn).trans ((bel1 w (takersO R)).block k hk)⟩
  cases hzz:takeT blankB s t with
  | error er =>
   rw [hzz] at hz
   obtain ⟨h7,hv4⟩:=hz
   have hne:=takeT_ne hzz
   refine ⟨er,refused_any R v3 er w3 h7 hv4,.inl ⟨hne,fun n=>⟨rfl,hBw.drewN n,v3,?_⟩⟩⟩
   rw [hG.bad ht hzz]
   exact ⟨h7.drewN n,hv4,(hv3 3 (by decide)).trans rfl,hne⟩
  | ok s' =>
   rw [hzz] at hz
   obtain ⟨hr3,hv4⟩:=hz
   have hv40:v3 4 = .int .i64 0:=hv4.trans h4
   refine ⟨0,refused_any R v3 0 w3 hr3.r7 hv40,.inr ⟨rfl,fun n=>⟨v3,s',hK13.drewN n,hr3.drewN n,hv40,hG.next ht hzz hv⟩⟩⟩
theorem takeAll_any (R:Nat) (v:Nat → Value) (toks:List Tok) (pt:Option Addr) (ct:Nat) (w:World) (h7:R7 w R v) (h4:v 4 = .int .i64 0) (h5:v 5 = .slice none 0 0) (h6:v 6 = .slice none 0 0) (hI:IRow w pt R (toks.map Tok.it)) (hsq:SeqT false toks) (hsm:∀ t ∈ toks,t.vl.size ≤ 16777216) (hl:toks.length ≤ 1048576) :
  Calls Tryz.prog 26 #[.pointer (some ⟨R,0,none⟩),.slice pt toks.length ct] w (AllPost R w toks):=by
 have hR:=h7.lt
 have hb1:=bel1 w (takersO R)
 have hsz1:(w.alloc (takersO R)).heap.size = w.heap.size + 1:=by rw [World.size_alloc]
 have hr1:Rdr (w.alloc (takersO R)) R (w.heap.size + 1) v ⟨[],[]⟩:=Rdr.fresh (h7.below hb1) (by omega) (by omega) h5 h6
 have HI:Hid (∀ wr,Kr R (w.heap.size + 1) (w.alloc (takersO R)) wr → ∀ j t,toks[j]? = some t → ∃ g o,pt = some ⟨g,o,none⟩ ∧ wr.cell? ⟨g,o + j * 4,none⟩ = some (.int .i64 (t.k:Int)) ∧ wr.cell? ⟨g,o + j * 4 + 1,none⟩ = some (.string t.nm) ∧ wr.cell? ⟨g,o + j * 4 + 2,none⟩ = some (.string t.vl) ∧ wr.cell? ⟨g,o + j * 4 + 3,none⟩ = some (.int .i64 (t.p:Int))):=Hid.mkT fun wr hK j t ht=>by
  obtain ⟨g,o,e,hg,c0,c1,c2,c3⟩:=hI.c j t.it (by rw [List.getElem?_map,ht];rfl)
  have hh:wr.heap[g]? = w.heap[g]?:=(hK.block g (by omega) (by omega)).trans (hb1.block g (by omega))
  refine ⟨g,o,e,?_,?_,?_,?_⟩
  ·exact (World.cell?_of_block (a:=⟨g,_,none⟩) hh).trans c0
  ·exact (World.cell?_of_block (a:=⟨g,_,none⟩) hh).trans c1
  ·exact (World.cell?_of_block (a:=⟨g,_,none⟩) hh).trans c2
  ·exact (World.cell?_of_block (a:=⟨g,_,none⟩) hh).trans c3
 have HS:Hid (Go1 blankB toks 0 ⟨[],[]⟩ ∧ Rdr (w.alloc (takersO R)) R (w.heap.size + 1) v ⟨[],[]⟩ ∧ v 4 = .int .i64 0 ∧ Kr R (w.heap.size + 1) (w.alloc (takersO R)) (w.alloc (takersO R))):=Hid.mkT ⟨Go1.start blankB toks hsq,hr1,h4,Kr.refl _ _ _⟩
 have HF:Hid (∀ wr s v',Go1 blankB toks toks.length s → Rdr wr R (w.heap.size + 1) v' s → v' 4 = .int .i64 0 → Kr R (w.heap.size + 1) (w.alloc (takersO R)) wr → AllPost R w toks (.returned (.tuple #[])) wr):=Hid.mkT fun wr s v' hG hr hv hK=>⟨rfl,⟨hK.os,hK.tape,hK.output,Nat.le_trans hb1.size hK.size,fun k hk hn=>(hK.block k (by omega) hn).trans (hb1.block k hk)⟩,v',by rw [hG.fin];exact ⟨w.heap.size + 1,by omega,hr,hv⟩⟩
 clear hr1 hb1 hI hsq h4 h5 h6 hsz1 h7
 go_enter Tryz.func26,Tryz.ntmps26
 go_wp2_with fail
 go_loopw [6,26] (fun p6 n wr=>∃ (j:Nat) (v':Nat → Value) (s:PSt),j ≤ toks.length ∧ n = .int .i64 j ∧ Hid (Go1 blankB toks j s ∧ Rdr wr R (w.heap.size + 1) v' s ∧ v' 4 = .int .i64 0 ∧ Kr R (w.heap.size + 1) (w.alloc (takersO R)) wr)) (fun _ n _=>toks.length - (RowKit.intOf n).toNat)
 case atStart=>exact ⟨0,v,⟨[],[]⟩,Nat.zero_le _,by go_num,HS⟩
 case round =>
  obtain ⟨j,v',s,hj,rfl,hH⟩:=hrel
  by_cases hlt:j < toks.length
  ·obtain ⟨t,ht⟩:∃ t,toks[j]? = some t:=⟨toks[j],List.getElem?_eq_getElem hlt⟩
   have hF:=round_facts hR hH.out.2.2.2 hH.out.2.1 hH.out.2.2.1 hH.out.1 ht (by omega) (hsm t (List.mem_of_getElem? ht))
   obtain ⟨g,o,rfl,q0,q1,q2,q3⟩:=HI.out wr hH.out.2.2.2 j t ht
   have hk8:=(hH.out.1.op ht).2
   have hk8i:(t.k:Int) < 8:=by omega
   have hlti:(j:Int) < toks.length:=by omega
   have hen:=ent_T t.k
   clear hH HI HS HF ht hsm hR
   obtain ⟨k,nm,vl,p⟩:=t
   dsimp only at hF q0 q1 q2 q3 hk8 hk8i hen
   generalize hfn:fnT k = fn at hF hen
   have HF2:=Hid.mkT hF
   clear hF
   go_wp2_with fail
   have x0:(wr.alloc (.cells #[.int .i64 (k:Int),.string nm,.string vl,.int .i64 (p:Int)] 67)).cell? ⟨wr.heap.size,0,none⟩ = some (.int .i64 (k:Int)):=by simp only [World.cell?,theap_new];rfl
   have x1:(wr.alloc (.cells #[.int .i64 (k:Int),.string nm,.string vl,.int .i64 (p:Int)] 67)).cell? ⟨wr.heap.size,1,none⟩ = some (.string nm):=by simp only [World.cell?,theap_new];rfl
   have x2:(wr.alloc (.cells #[.int .i64 (k:Int),.string nm,.string vl,.int .i64 (p:Int)] 67)).cell? ⟨wr.heap.size,2,none⟩ = some (.string vl):=by simp only [World.cell?,theap_new];rfl
   have x3:(wr.alloc (.cells #[.int .i64 (k:Int),.string nm,.string vl,.int .i64 (p:Int)] 67)).cell? ⟨wr.heap.size,3,none⟩ = some (.int .i64 (p:Int)):=by simp only [World.cell?,theap_new];rfl
   go_region_law (refine xstep2 ?_ _ (.tmp 33) (.tmp 34) #[69,67] ?_ ent_moveTo _ _ ?_ ?_ _ HF2.out ?_;rfl;rfl;rfl;rfl;rintro _ w2 ⟨rfl,k0,kB,cT⟩;clear HF2)
   clear x0 x1 x2 x3 q0 q1 q2 q3
   go_wp2_with fail
   refine cT.mono ?_
   rintro _ w3 ⟨rfl,er,cR,hz⟩
   clear cT k0 kB
   rcases hz with ⟨hne,hA⟩ | ⟨h0,hB⟩
   ·rw [decide_eq_true hne] at cR
    have HA:=Hid.mkT hA
    clear hA hne
    go_wp2_with (go_at_call 28;refine cR.mono ?_;rintro _ _ ⟨rfl,n,rfl⟩)
    go_end0
    exact HA.out n
   ·subst h0
    have HB:=Hid.mkT hB
    clear hB
    rw [show decide ((0:Nat) ≠ 0) = false from rfl] at cR
    go_wp2_with (go_at_call 28;refine cR.mono ?_;rintro _ _ ⟨rfl,n,rfl⟩)
    obtain ⟨v'',s',h1,h2,h3,h4⟩:=HB.out n
    go_roundw
    case rel=>exact ⟨j + 1,v'',s',by omega,by go_num,h4,h2,h3,h1⟩
    case measure=>simp [RowKit.intOf];omega
  ·obtain rfl:j = toks.length:=by omega
   have HE:=Hid.mkT (HF.out wr s v' hH.out.1 hH.out.2.1 hH.out.2.2.1 hH.out.2.2.2)
   clear HI HS HF hH hsm
   go_wp2_with fail
   go_end0
   exact HE.out
theorem Rdr.ec {W:World} {R bot:Nat} {v:Nat → Value} {s:PSt} (h:Rdr W R bot v s) (h0:s.op = []):∃ p c,v 6 = .slice p s.es.length c ∧ EC W p W.heap.size s.es:=by
 obtain ⟨f,sx,ex,hT,hs,he⟩:=h.x
 rw [h0,hide_nil] at he
 have hl:ex.length = s.es.length:=by rw [← he,List.length_map]
 obtain ⟨p,c,e6⟩:=own_sl hT.own1
 refine ⟨p,c,by rw [e6,hl],⟨fun i e hi=>?_⟩⟩
 obtain ⟨x,hx,rfl⟩:∃ x,ex[i]? = some x ∧ x.e = e:=by
  rw [← he,List.getElem?_map] at hi
  obtain ⟨x,hx,hxe⟩:=Option.map_eq_some_iff.1 hi
  exact ⟨x,hx,hxe⟩
 have h1:=hT.own1
 obtain ⟨g,cap,eg⟩:=own_shape h1 (show 0 < ex.length by have:=(List.getElem?_eq_some_iff.1 hx).1;omega)
 rw [e6] at eg
 injection eg with eg _ _
 subst eg
 rw [e6] at h1
 have a0:=own_get h1 (o:=i * 5 + 0) (flat_get elC 5 elC_len _ i x hx 0 (by decide))
 have a1:=own_get h1 (o:=i * 5 + 1) (flat_get elC 5 elC_len _ i x hx 1 (by decide))
 have a2:=own_get h1 (o:=i * 5 + 2) (flat_get elC 5 elC_len _ i x hx 2 (by decide))
 have a3:=own_get h1 (o:=i * 5 + 3) (flat_get elC 5 elC_len _ i x hx 3 (by decide))
 have a4:=own_get h1 (o:=i * 5 + 4) (flat_get elC 5 elC_len _ i x hx 4 (by decide))
 have hA:=hT.ownA hx
 have hAr:∃ pa ca,x.av = .slice pa x.e.ats.length ca ∧ ARow W pa W.heap.size x.e.ats ∧ x.e.ats.length ≤ ca:=by
  rcases hA.2 with ⟨e1,h0⟩ | ⟨g',cap',cur,e1,hb,hg,hn,hm,hs,hxx⟩
  ·refine ⟨none,0,by rw [e1,h0],⟨fun j t ht=>?_⟩,by rw [h0];exact Nat.le_refl _⟩
   rw [List.eq_nil_of_length_eq_zero h0] at ht
   cases ht
  ·refine ⟨_,cap',e1,⟨fun j t ht=>?_⟩,hn⟩
   rw [e1] at hA
   have b0:=own_get hA (o:=j * 3 + 0) (flat_get attC 3 (fun _=>rfl) _ j t ht 0 (by decide))
   have b1:=own_get hA (o:=j * 3 + 1) (flat_get attC 3 (fun _=>rfl) _ j t ht 1 (by decide))
   have b2:=own_get hA (o:=j * 3 + 2) (flat_get attC 3 (fun _=>rfl) _ j t ht 2 (by decide))
   exact ⟨g',0,rfl,(Array.getElem?_eq_some_iff.1 hg).1,by rw [Nat.zero_add];exact b0.1,by rw [Nat.zero_add];exact b1.1,by rw [Nat.zero_add];exact b2.1⟩
 obtain ⟨pa,ca,hav,hAR,hAl⟩:=hAr
 refine ⟨g,0,pa,ca,rfl,a0.2.2.2,?_,?_,?_,?_,?_,hAR,hAl⟩
 ·rw [Nat.zero_add];exact a0.1
 ·rw [Nat.zero_add];exact a1.1
 ·rw [Nat.zero_add,← hav];exact a2.1
 ·rw [Nat.zero_add];exact a3.1
 ·rw [Nat.zero_add];exact a4.1
def endE (s:PSt):Nat:=if s.op ≠ [] then 51 else if s.es = [] then 53 else 0
theorem finish_ok (R bot:Nat) (v:Nat → Value) (s:PSt) (n:Nat) (w:World) (h:Rdr w R bot v s) (h4:v 4 = .int .i64 0) :
  Calls Tryz.prog 27 #[.pointer (some ⟨R,0,none⟩),.int .i64 (n:Int)] w fun e w'=>e = .returned (.tuple #[]) ∧ Kr R bot w w' ∧ ∃ v',R7 w' R v' ∧ v' 4 = .int .i64 (endE s:Int) ∧ v' 3 = .int .i64 (n:Int) ∧ (endE s = 0 → Rdr w' R bot v' s):=by
 have cR:Calls Tryz.prog 28 #[.pointer (some ⟨R,0,none⟩)] w fun e w'=>e = .returned (.bool false) ∧ ∃ n,w' = w.drewN n:=by
  have:=refused_any R v 0 w h.r7 h4
  simpa using this
 have cM:=fun m=>moveTo_any R bot v 0 (n:Int) ⟨#[]⟩ ⟨#[]⟩ (w.drewN m) (h.r7.drewN m) h.hB
 obtain ⟨pa,ca,h5⟩:=h.sl
 obtain ⟨pe,ce,h6⟩:=h.el
 have HV:Hid (pcV 0 ⟨#[]⟩ ⟨#[]⟩ (n:Int) v 5 = v 5 ∧ pcV 0 ⟨#[]⟩ ⟨#[]⟩ (n:Int) v 6 = v 6 ∧ pcV 0 ⟨#[]⟩ ⟨#[]⟩ (n:Int) v 4 = v 4 ∧ pcV 0 ⟨#[]⟩ ⟨#[]⟩ (n:Int) v 3 = .int .i64 (n:Int)):=Hid.mkT ⟨rfl,rfl,rfl,rfl⟩
 have HRd:Hid (∀ m w',Kr R bot (w.drewN m) w' → R7 w' R (pcV 0 ⟨#[]⟩ ⟨#[]⟩ (n:Int) v) → (∀ j,j < (w.drewN m).heap.size → j ≠ R → w'.heap[j]? = (w.drewN m).heap[j]?) → Rdr w' R bot (pcV 0 ⟨#[]⟩ ⟨#[]⟩ (n:Int) v) s):=Hid.mkT fun m w' hK h7 hall=>by
  obtain ⟨f,sx,ex,hTR,h1,h2⟩:=h.x
  exact ⟨h7,h.hR,Nat.le_trans h.hB hK.size,h.ok,f,sx,ex,hTR.same (fun k hk hk'=>hall k hk' (by have:=h.hR;omega)),h1,h2⟩
 have hKd:∀ m w',Kr R bot (w.drewN m) w' → Kr R bot w w':=fun m w' hK=>⟨hK.os,hK.tape,hK.output,hK.size,hK.block⟩
 unfold endE
 by_cases c1:s.op ≠ []
 ·rw [if_pos c1]
  obtain ⟨N,hN⟩:∃ N,s.op.length = N + 1:=⟨s.op.length - 1,by have:=List.length_pos_iff.2 c1;omega⟩
  have hE:=List.length_pos_iff.2 (h.ok.ne c1)
  rw [hN] at h5
  have z1:((s.es.length:Int) == 0) = false:=beq_eq_false_iff_ne.2 (by omega)
  have z1':¬ (s.es.length:Int) = 0:=by omega
  clear c1 hN hE
  go_enter Tryz.func27,Tryz.ntmps27
  go_wp2_with (first
   | (go_at_call 28;refine cR.mono ?_;rintro _ _ ⟨rfl,m,rfl⟩;have cM1:=cM m)
   | (go_at_call 49;refine cM1.mono ?_;rintro _ w2 ⟨rfl,hK2,h72,hall⟩;have cB:=mustBeEmpty_no R _ w2 h72 pa N ca (HV.out.1.trans h5))
   | (go_at_call 50;refine cB.mono ?_;rintro _ w3 ⟨rfl,q,hw3⟩;have h73:R7 w3 R (up7 (pcV 0 ⟨#[]⟩ ⟨#[]⟩ (n:Int) v) 4 (.int .i64 51)):=(by rw [hw3];exact (h72.drewN q).set 4 _);have HK3:Hid (Kr R bot w w3):=Hid.mkT (by rw [hw3];exact ((hKd m _ hK2).drewN q).trans (Kr.set R bot 4 _ _));have e6:w3.cell? ⟨R,6,none⟩ = some (.slice pe s.es.length ce):=((h73.c 6 (by decide)).trans (by rw [up7_ne _ _ (by decide),HV.out.2.1,h6]));clear hw3))
  go_end0
  exact ⟨rfl,HK3.out,_,h73,up7_same _ _ _,(up7_ne _ _ (by decide)).trans HV.out.2.2.2,fun h=>absurd h (by decide)⟩
 ·rw [if_neg c1]
  have h0:s.op = []:=Classical.not_not.1 c1
  rw [h0] at h5
  by_cases c2:s.es = []
  ·rw [if_pos c2]
   rw [c2] at h6
   clear c1 c2 h0
   go_enter Tryz.func27,Tryz.ntmps27
   go_wp2_with (first
    | (go_at_call 28;refine cR.mono ?_;rintro _ _ ⟨rfl,m,rfl⟩;have cM1:=cM m)
    | (go_at_call 49;refine cM1.mono ?_;rintro _ w2 ⟨rfl,hK2,h72,hall⟩;have cB:=mustBeEmpty_yes R _ w2 h72 pa ca (HV.out.1.trans h5))
    | (go_at_call 50;refine cB.mono ?_;rintro _ w3 ⟨rfl,q,hw3⟩;have h73:R7 w3 R (pcV 0 ⟨#[]⟩ ⟨#[]⟩ (n:Int) v):=(by rw [hw3];exact h72.drewN q);have HK3:Hid (Kr R bot w w3):=Hid.mkT (by rw [hw3];exact (hKd m _ hK2).drewN q);have e6:w3.cell? ⟨R,6,none⟩ = some (.slice pe 0 ce):=((h73.c 6 (by decide)).trans (by rw [HV.out.2.1,h6];rfl));have cF:=refuse_any R _ 53 w3 h73;clear hw3)
    | (go_at_call 51;refine cF.mono ?_;rintro _ _ ⟨rfl,rfl⟩))
   go_end0
   exact ⟨rfl,HK3.out.trans (Kr.set R bot 4 _ _),_,h73.set 4 _,up7_same _ _ _,(up7_ne _ _ (by decide)).trans HV.out.2.2.2,fun h=>absurd h (by decide)⟩
  ·rw [if_neg c2]
   have hE:=List.length_pos_iff.2 c2
   have z1:((s.es.length:Int) == 0) = false:=beq_eq_false_iff_ne.2 (by omega)
   have z1':¬ (s.es.length:Int) = 0:=by omega
   clear c1 c2 h0 hE
   go_enter Tryz.func27,Tryz.ntmps27
   go_wp2_with (first
    | (go_at_call 28;refine cR.mono ?_;rintro _ _ ⟨rfl,m,rfl⟩;have cM1:=cM m)
    | (go_at_call 49;refine cM1.mono ?_;rintro _ w2 ⟨rfl,hK2,h72,hall⟩;have cB:=mustBeEmpty_yes R _ w2 h72 pa ca (HV.out.1.trans h5))
    | (go_at_call 50;refine cB.mono ?_;rintro _ w3 ⟨rfl,q,hw3⟩;have hr3:Rdr w3 R bot (pcV 0 ⟨#[]⟩ ⟨#[]⟩ (n:Int) v) s:=(by rw [hw3];exact (HRd.out m w2 hK2 h72 hall).drewN q);have HK3:Hid (Kr R bot w w3):=Hid.mkT (by rw [hw3];exact (hKd m _ hK2).drewN q);have e6:w3.cell? ⟨R,6,none⟩ = some (.slice pe s.es.length ce):=((hr3.r7.c 6 (by decide)).trans (by rw [HV.out.2.1,h6]));clear hw3))
   go_end0
   exact ⟨rfl,HK3.out,_,hr3.r7,HV.out.2.2.1.trans h4,HV.out.2.2.2,fun _=>hr3⟩
open Go.Shelf
def parseZ (s:ByteArray):List El × Nat × Nat:=if er1 s ≠ 0 then ([],er1 s,er2 s) else match takeL blankB (LL s) ⟨[],[]⟩ with
 | .error x=>([],x.1,x.2)
 | .ok t=>if endE t = 0 then (t.es,0,0) else ([],endE t,s.size)
def ParseE (s:ByteArray) (w:World) (e:Ending) (w':World):Prop :=
 ∃ p c,e = .returned (.tuple #[.slice p (parseZ s).1.length c,.int .i64 ((parseZ s).2.1:Int),.int .i64 ((parseZ s).2.2:Int)]) ∧ Below w.heap.size w w' ∧ EC w' p w'.heap.size (parseZ s).1
def ParseU (s:ByteArray) (w:World) (e:Ending) (w':World):Prop :=
 ∃ p c,e = .returned (.tuple #[.slice p (parseZ s).1.length c,.int .i64 ((parseZ s).2.1:Int),.int .i64 ((parseZ s).2.2:Int)]) ∧ Below w.heap.size w w' ∧ ERow w' p w'.heap.size (parseZ s).1
theorem er1_none {s:ByteArray} (h:er1 s = 0):(toksN s).2 = none:=by
 unfold er1 at h
 cases hz:(toksN s).2 with
 | none=>rfl
 | some x =>
  rw [hz] at h
  exact absurd h (toksF_ne (s:=s) (e:=x.1) (p:=x.2) hz)
abbrev rdrO:Obj:=.cells #[.int .i64 0,.string ⟨#[]⟩,.string ⟨#[]⟩,.int .i64 0,.int .i64 0,.slice none 0 0,.slice none 0 0] 74
def rdrV:Nat → Value:=fun o=>(#[.int .i64 0,.string ⟨#[]⟩,.string ⟨#[]⟩,.int .i64 0,.int .i64 0,.slice none 0 0,.slice none 0 0]:Array Value).getD o undef
theorem r7_new (w:World):R7 (w.alloc rdrO) w.heap.size rdrV:=by
 have hh:=theap_new w rdrO
 refine ⟨fun o ho=>?_,fun o=>by simp only [World.frozen?,hh];simp,by rw [World.size_alloc];omega⟩
 have:o = 0 ∨ o = 1 ∨ o = 2 ∨ o = 3 ∨ o = 4 ∨ o = 5 ∨ o = 6:=by omega
 rcases this with rfl | rfl | rfl | rfl | rfl | rfl | rfl <;> (simp only [World.cell?,hh];rfl)
theorem finish_bad (R:Nat) (v:Nat → Value) (er n:Nat) (w:World) (h:R7 w R v) (h4:v 4 = .int .i64 (er:Int)) (hne:er ≠ 0) :
  Calls Tryz.prog 27 #[.pointer (some ⟨R,0,none⟩),.int .i64 (n:Int)] w fun e w'=>e = .returned (.tuple #[]) ∧ ∃ m,w' = w.drewN m:=by
 have cR:Calls Tryz.prog 28 #[.pointer (some ⟨R,0,none⟩)] w fun e w'=>e = .returned (.bool true) ∧ ∃ n,w' = w.drewN n:=by
  have:=refused_any R v er w h h4
  simpa [hne] using this
 go_enter Tryz.func27,Tryz.ntmps27
 go_wp2_with (go_at_call 28;refine cR.mono ?_;rintro _ _ ⟨rfl,m,rfl⟩)
 exact bodyPost_ret (v:=.tuple #[]) (by simp [results,Tryz.results27,go_sem]) rfl ⟨rfl,m,rfl⟩
theorem Kr.bel {R:Nat} {w w':World} (h:Kr R w.heap.size (w.alloc rdrO) w') (hR:R = w.heap.size):Below w.heap.size w w':=by
 have hb:=bel1 w rdrO
 exact ⟨h.os,h.tape,h.output,Nat.le_trans hb.size h.size,fun k hk=>(h.block k hk (by omega)).trans (hb.block k hk)⟩
theorem Parse_ec (s:ByteArray) (w:World) (hE:Env w) (h7:7 ≤ w.heap.size) (hs:s.size ≤ 9223372036854775807) :
  Calls Tryz.prog 10 #[.string s] w (ParseE s w):=by
 have cT:=tokU s w hE h7 hs
 have HU:Hid (∀ e w',ParseE s w e w' → ParseE s w e w'):=Hid.mkT fun _ _ h=>h
 by_cases h1:er1 s = 0
 ·have hn:=er1_none h1
  have hLL:LL s = (toksN s).1:=by unfold LL;rw [hn]
  have he2:er2 s = 0:=by unfold er2;rw [hn];rfl
  have hts:toksN s = (LL s,none):=by rw [hLL,← hn]
  have hsm:∀ t ∈ LL s,t.vl.size ≤ 16777216:=fun t ht=>(toks_small hts t.it (List.mem_map_of_mem ht)).2
  have hsq:SeqT false (LL s):=by rw [hLL];exact toksN_seq s hs
  have hlen:(LL s).length ≤ 1048576:=by rw [hLL];exact toksN_len s (by omega)
  unfold TokU at cT
  rw [h1,he2] at cT
  have cA:∀ w1 p c,Below w.heap.size w w1 → IRow w1 p w1.heap.size ((LL s).map Tok.it) → Calls Tryz.prog 26 #[.pointer (some ⟨w1.heap.size,0,none⟩),.slice p (LL s).length c] (w1.alloc rdrO) (AllPost w1.heap.size (w1.alloc rdrO) (LL s)):=fun w1 p c hb hI =>
   takeAll_any w1.heap.size rdrV (LL s) p c (w1.alloc rdrO) (r7_new w1) rfl rfl rfl (hI.below (bel1 w1 rdrO)) hsq hsm hlen
  unfold ParseE parseZ
  rw [if_neg (by rw [h1];decide)]
  unfold AllPost at cA
  cases hz:takeL blankB (LL s) ⟨[],[]⟩ with
  | error x =>
   obtain ⟨er,p⟩:=x
   rw [hz] at cA
   dsimp only at cA ⊢
   generalize LL s = L at cT cA
   clear hts hsm hsq hlen hLL hn he2 h1 hz HU
   go_enter Tryz.func10,Tryz.ntmps10
   go_wp2_with (first
    | (go_at_call 25;refine cT.mono ?_;rintro _ w1 ⟨p1,c1,rfl,hb1,hI1⟩;have cA1:=cA w1 p1 c1 hb1 hI1;clear cT cA hI1)
    | (go_at_call 26;refine cA1.mono ?_;rintro _ w2 ⟨rfl,hK2,v2,h72,hv4,hv3,hne⟩;have cF:=finish_bad _ v2 er s.size w2 h72 hv4 hne;have cR:=refused_any w1.heap.size v2 er;clear cA1)
    | (go_at_call 27;refine cF.mono ?_;rintro _ w3 ⟨rfl,m,hw3⟩;have h73:R7 w3 w1.heap.size v2:=(by rw [hw3];exact h72.drewN m);have HK3:Hid (Below w.heap.size w w3):=Hid.mkT (hb1.trans ((Kr.bel (w':=w3) (by rw [hw3];exact ⟨hK2.os,hK2.tape,hK2.output,hK2.size,fun k hk hn=>hK2.block k (by rw [World.size_alloc];omega) hn⟩) rfl).mono hb1.size));have cR1:=cR w3 h73 hv4;rw [decide_eq_true hne] at cR1;have e4:=h73.c 4 (by decide);have e3:=h73.c 3 (by decide);rw [hv4] at e4;rw [hv3] at e3;clear hw3)
    | (go_at_call 28;refine cR1.mono ?_;rintro _ w4 ⟨rfl,m4,hw4⟩;have f4:w4.cell? ⟨w1.heap.size,4,none⟩ = some (.int .i64 (er:Int)):=(by rw [hw4];exact e4);have f3:w4.cell? ⟨w1.heap.size,3,none⟩ = some (.int .i64 (p:Int)):=(by rw [hw4];exact e3);have HK4:Hid (Below w.heap.size w w4):=Hid.mkT (by rw [hw4];exact ⟨HK3.out.os,HK3.out.tape,HK3.out.output,HK3.out.size,HK3.out.block⟩);clear hw4))
   go_quiet (fail)
   go_wp2_with fail
   exact bodyPost_ret (v:=.tuple #[.slice none 0 0,.int .i64 (er:Int),.int .i64 (p:Int)]) (by simp [results,Tryz.results10,go_sem]) rfl ⟨none,0,rfl,⟨HK4.out.os,HK4.out.tape,HK4.out.output,HK4.out.size,HK4.out.block⟩,⟨fun i e hi=>(by cases hi)⟩⟩
  | ok t =>
   rw [hz] at cA
   dsimp only at cA ⊢
   generalize LL s = L at cT cA
   clear hts hsm hsq hlen hLL hn he2 h1 hz HU
   by_cases h0:endE t = 0
   ·rw [if_pos h0]
    have h0op:t.op = []:=by
     unfold endE at h0
     by_cases hc:t.op ≠ []
     ·rw [if_pos hc] at h0;cases h0
     ·exact Classical.not_not.1 hc
    dsimp only
    go_enter Tryz.func10,Tryz.ntmps10
    go_wp2_with (first
     | (go_at_call 25;refine cT.mono ?_;rintro _ w1 ⟨p1,c1,rfl,hb1,hI1⟩;have cA1:=cA w1 p1 c1 hb1 hI1;clear cT cA hI1)
     | (go_at_call 26;refine cA1.mono ?_;rintro _ w2 ⟨rfl,hK2,v2,bot,hbot,hr2,hv4⟩;have cF:=finish_ok _ bot v2 t s.size w2 hr2 hv4;clear cA1)
     | (go_at_call 27;refine cF.mono ?_;rintro _ w3 ⟨rfl,hK3,v3,h73,hv4,hv3,hrr⟩;have hr3:=hrr h0;have HK3:Hid (Below w.heap.size w w3):=Hid.mkT (hb1.trans ((Kr.bel (w':=w3) ⟨hK3.os.trans hK2.os,hK3.tape.trans hK2.tape,hK3.output.trans hK2.output,Nat.le_trans hK2.size hK3.size,fun k hk hn=>(hK3.block k (by rw [World.size_alloc] at hbot;omega) hn).trans (hK2.block k (by rw [World.size_alloc];omega) hn)⟩ rfl).mono hb1.size));rw [h0] at hv4;have cR1:=refused_any w1.heap.size v3 0 w3 h73 hv4;rw [show decide ((0:Nat) ≠ 0) = false from rfl] at cR1;obtain ⟨pe,ce,h6,hEC⟩:=hr3.ec h0op;have e6:=h73.c 6 (by decide);rw [h6] at e6;clear hrr)
     | (go_at_call 28;refine cR1.mono ?_;rintro _ w4 ⟨rfl,m4,hw4⟩;have f6:w4.cell? ⟨w1.heap.size,6,none⟩ = some (.slice pe t.es.length ce):=(by rw [hw4];exact e6);have HK4:Hid (Below w.heap.size w w4 ∧ EC w4 pe w4.heap.size t.es):=Hid.mkT (by rw [hw4];exact ⟨⟨HK3.out.os,HK3.out.tape,HK3.out.output,HK3.out.size,HK3.out.block⟩,hEC.below ⟨rfl,rfl,rfl,Nat.le_refl _,fun _ _=>rfl⟩⟩);clear hw4))
    exact bodyPost_ret (v:=.tuple #[.slice pe t.es.length ce,.int .i64 0,.int .i64 0]) (by simp [results,Tryz.results10,go_sem]) rfl ⟨pe,ce,rfl,HK4.out.1,HK4.out.2⟩
   ·rw [if_neg h0]
    dsimp only
    go_enter Tryz.func10,Tryz.ntmps10
    go_wp2_with (first
     | (go_at_call 25;refine cT.mono ?_;rintro _ w1 ⟨p1,c1,rfl,hb1,hI1⟩;have cA1:=cA w1 p1 c1 hb1 hI1;clear cT cA hI1)
     | (go_at_call 26;refine cA1.mono ?_;rintro _ w2 ⟨rfl,hK2,v2,bot,hbot,hr2,hv4⟩;have cF:=finish_ok _ bot v2 t s.size w2 hr2 hv4;clear cA1)
     | (go_at_call 27;refine cF.mono ?_;rintro _ w3 ⟨rfl,hK3,v3,h73,hv4,hv3,-⟩;have HK3:Hid (Below w.heap.size w w3):=Hid.mkT (hb1.trans ((Kr.bel (w':=w3) ⟨hK3.os.trans hK2.os,hK3.tape.trans hK2.tape,hK3.output.trans hK2.output,Nat.le_trans hK2.size hK3.size,fun k hk hn=>(hK3.block k (by rw [World.size_alloc] at hbot;omega) hn).trans (hK2.block k (by rw [World.size_alloc];omega) hn)⟩ rfl).mono hb1.size));have cR1:=refused_any w1.heap.size v3 (endE t) w3 h73 hv4;rw [decide_eq_true h0] at cR1;have e4:=h73.c 4 (by decide);have e3:=h73.c 3 (by decide);rw [hv4] at e4;rw [hv3] at e3)
     | (go_at_call 28;refine cR1.mono ?_;rintro _ w4 ⟨rfl,m4,hw4⟩;have f4:w4.cell? ⟨w1.heap.size,4,none⟩ = some (.int .i64 (endE t:Int)):=(by rw [hw4];exact e4);have f3:w4.cell? ⟨w1.heap.size,3,none⟩ = some (.int .i64 (s.size:Int)):=(by rw [hw4];exact e3);have HK4:Hid (Below w.heap.size w w4):=Hid.mkT (by rw [hw4];exact ⟨HK3.out.os,HK3.out.tape,HK3.out.output,HK3.out.size,HK3.out.block⟩);clear hw4))
    go_quiet (fail)
    go_wp2_with fail
    exact bodyPost_ret (v:=.tuple #[.slice none 0 0,.int .i64 (endE t:Int),.int .i64 (s.size:Int)]) (by simp [results,Tryz.results10,go_sem]) rfl ⟨none,0,rfl,⟨HK4.out.os,HK4.out.tape,HK4.out.output,HK4.out.size,HK4.out.block⟩,⟨fun i e hi=>(by cases hi)⟩⟩
 ·unfold ParseE parseZ
  rw [if_pos h1]
  unfold TokU at cT
  have z1:¬ (er1 s:Int) = 0:=by omega
  have z2:((er1 s:Int) == 0) = false:=beq_eq_false_iff_ne.2 z1
  have z3:((er1 s:Int) != 0) = true:=by rw [bne,z2];rfl
  clear HU h1
  go_enter Tryz.func10,Tryz.ntmps10
  go_wp2_with (go_at_call 25;refine cT.mono ?_;rintro _ w1 ⟨p1,c1,rfl,hb1,-⟩)
  exact bodyPost_ret (v:=.tuple #[.slice none 0 0,.int .i64 (er1 s:Int),.int .i64 (er2 s:Int)]) (by simp [results,Tryz.results10,go_sem]) rfl ⟨none,0,rfl,hb1,⟨fun i e hi=>(by cases hi)⟩⟩
theorem Parse_any (s:ByteArray) (w:World) (hE:Env w) (h7:7 ≤ w.heap.size) (hs:s.size ≤ 9223372036854775807) :
  Calls Tryz.prog 10 #[.string s] w (ParseU s w) :=
 (Parse_ec s w hE h7 hs).mono fun _ _ ⟨p,c,h1,h2,h3⟩=>⟨p,c,h1,h2,h3.erow⟩
abbrev fixS:ByteArray:=⟨#[60,97,32,120,61,39,49,39,62,98,60,99,47,62,100,60,33,45,45,101,45,45,62,60,47,97,62]⟩
theorem parse_fix:parseZ fixS = ([⟨1,⟨#[97]⟩,[⟨⟨#[120]⟩,⟨#[49]⟩,3⟩],⟨#[98,100]⟩,0⟩,⟨2,⟨#[99]⟩,[],⟨#[]⟩,10⟩],0,0):=by kernel_rfl
theorem fnum_any (e:Int) (w:World):Calls Tryz.prog 12 #[.int .i64 e] w fun r w'=>r = .returned (.int .i64 e) ∧ w' = w:=by
 go_enter Tryz.func12,Tryz.ntmps12
 go_wp2_with fail
 go_ret
 exact ⟨rfl,rfl⟩
theorem fixed_any (w:World) (hE:Env w) (h7:7 ≤ w.heap.size):Calls Tryz.prog 7 #[] w fun e w'=>e = .returned (.bool true) ∧ Below w.heap.size w w':=by
 have c:=Parse_any fixS w hE h7 (by decide)
 unfold ParseU at c
 rw [parse_fix] at c
 dsimp only at c
 have c2:Calls Tryz.prog 10 #[.string fixS] w fun e w'=>∃ g o c ga oa ca,e = .returned (.tuple #[.slice (some ⟨g,o,none⟩) 2 c,.int .i64 0,.int .i64 0]) ∧ Below w.heap.size w w' ∧ w'.cell? ⟨g,o + 3,none⟩ = some (.string ⟨#[98,100]⟩) ∧ w'.cell? ⟨g,o + 5 + 1,none⟩ = some (.string ⟨#[99]⟩) ∧ w'.cell? ⟨g,o + 5,none⟩ = some (.int .i64 2) ∧ w'.cell? ⟨g,o + 5 + 4,none⟩ = some (.int .i64 10) ∧
   w'.cell? ⟨g,o + 2,none⟩ = some (.slice (some ⟨ga,oa,none⟩) 1 ca) ∧ w'.cell? ⟨ga,oa,none⟩ = some (.string ⟨#[120]⟩) ∧ w'.cell? ⟨ga,oa + 1,none⟩ = some (.string ⟨#[49]⟩) ∧ w'.cell? ⟨ga,oa + 2,none⟩ = some (.int .i64 3):=by
  refine c.mono ?_
  rintro e w' ⟨p,c,rfl,hb,hr⟩
  obtain ⟨g,o,pa,ca,rfl,_,a0,a1,a2,a3,a4,hA⟩:=hr.c 0 _ rfl
  obtain ⟨g',o',pa',ca',e',_,b0,b1,b2,b3,b4,_⟩:=hr.c 1 _ rfl
  cases e'
  obtain ⟨ga,oa,rfl,_,d0,d1,d2⟩:=hA.c 0 _ rfl
  simp only [Nat.zero_mul,Nat.add_zero,Nat.one_mul] at a0 a1 a2 a3 a4 b0 b1 b2 b3 b4 d0 d1 d2
  exact ⟨g,o,c,ga,oa,ca,rfl,hb,a3,b1,b0,b4,a2,d0,d1,d2⟩
 clear c
 go_enter Tryz.func7,Tryz.ntmps7
 go_wp2_with (first
  | (go_at_call 10;refine c2.mono ?_;rintro _ w1 ⟨g,o,c,ga,oa,ca,rfl,hb,q1,q2,q3,q4,q5,q6,q7,q8⟩)
  | (go_at_call 12;refine (fnum_any _ _).mono ?_;rintro _ w' ⟨rfl,hw'⟩;replace hw':=hw'.symm;subst hw'))
 go_ret
 exact ⟨rfl,hb⟩
abbrev nV (i:Nat):Value:=.int .i64 (i:Int)
def opI (v:Value) (op:List Nat):Rw:=⟨3,1,v,op.length,op.map nV⟩
structure TQ (W:World) (bot:Nat) (vO vE:Value) (f:Nat → Rw) (op:List Nat) (ex:List Elx):Prop where
 pf:PF W bot f
 f0:f 0 = opI vO op
 f1:f 1 = elR vE ex
 fa:∀ i x,ex[i]? = some x → f (3 + 2 * i) = atR x
theorem TQ.same {W W':World} {bot:Nat} {vO vE:Value} {f:Nat → Rw} {op:List Nat} {ex:List Elx} (h:TQ W bot vO vE f op ex) (hb:∀ k,bot ≤ k → k < W.heap.size → W'.heap[k]? = W.heap[k]?):TQ W' bot vO vE f op ex :=
 ⟨h.pf.same hb,h.f0,h.f1,h.fa⟩
theorem TQ.keep {W W':World} {bot:Nat} {vO vE:Value} {f:Nat → Rw} {op:List Nat} {ex:List Elx} (h:TQ W bot vO vE f op ex) (hb:Below W.heap.size W W'):TQ W' bot vO vE f op ex:=h.same fun k _ hk=>hb.block k hk
theorem TQ.own0 {W:World} {bot:Nat} {vO vE:Value} {f:Nat → Rw} {op:List Nat} {ex:List Elx} (h:TQ W bot vO vE f op ex):W.ownsRow bot 3 1 vO op.length (op.map nV):=by
 have:=h.pf.own 0
 rw [h.f0] at this
 exact this
theorem TQ.own1 {W:World} {bot:Nat} {vO vE:Value} {f:Nat → Rw} {op:List Nat} {ex:List Elx} (h:TQ W bot vO vE f op ex):W.ownsRow bot 32 5 vE ex.length (ex.flatMap elC):=by
 have:=h.pf.own 1
 rw [h.f1] at this
 exact this
theorem TQ.ownA {W:World} {bot:Nat} {vO vE:Value} {f:Nat → Rw} {op:List Nat} {ex:List Elx} (h:TQ W bot vO vE f op ex) {i:Nat} {x:Elx} (hi:ex[i]? = some x):W.ownsRow bot 54 3 x.av x.e.ats.length (attCells x.e.ats):=by
 have:=h.pf.own (3 + 2 * i)
 rw [h.fa i x hi] at this
 exact this
theorem infoIn:(Tryz.prog.info? 3).map (fun i=>(i.zero,i.size,i.bytes)) = some (some (.int .i64 0),1,8):=by kernel_rfl
theorem TQ.push {W W1 W':World} {bot k:Nat} {vO vE vO':Value} {f:Nat → Rw} {op:List Nat} {ex:List Elx} (h:TQ W bot vO vE f op ex) (hb:Below W.heap.size W W1)
  (hO:W'.ownsRow bot 3 1 vO' (op.length + 1) (op.map nV ++ [nV k])) (hg:W1.grownBy W' vO.ownBlock) (hv:vO'.ownBlock = vO.ownBlock ∨ vO'.ownBlock = some W1.heap.size):∃ f',TQ W' bot vO' vE f' (op ++ [k]) ex:=by
 have hf0:(f 0).v = vO:=by rw [h.f0];rfl
 have P1:=pf_app h.pf hb 0 (r:=opI vO' (op ++ [k])) (by
  unfold Rw.own opI
  rw [List.length_append,List.map_append]
  exact hO) (by rw [hf0];exact hg) (by rw [hf0];exact hv)
 exact ⟨_,P1,upF_same _ _ _,by rw [upF_ne _ _ _ (by omega),h.f1],fun i x hi=>by rw [upF_ne _ _ _ (by omega)];exact h.fa i x hi⟩
theorem TQ.pop {W:World} {bot g cap k:Nat} {vE:Value} {f:Nat → Rw} {op:List Nat} {ex:List Elx} (h:TQ W bot (.slice (some ⟨g,0,none⟩) (op.length + 1) cap) vE f (op ++ [k]) ex):∃ f',TQ W bot (.slice (some ⟨g,0,none⟩) op.length cap) vE f' op ex:=by
 have h0:=h.own0
 rw [List.length_append,List.length_singleton,List.map_append] at h0
 have h1:=own_front h0 (m:=op.length) (by omega)
 rw [List.take_left' (by rw [List.length_map,Nat.mul_one])] at h1
 have P:=h.pf.upd 0 (r:=opI (.slice (some ⟨g,0,none⟩) op.length cap) op) h1 (fun k hk=>.inl (by rw [h.f0];exact hk)) (fun _ _ _ _=>rfl)
 exact ⟨_,P,upF_same _ _ _,by rw [upF_ne _ _ _ (by omega),h.f1],fun i x hi=>by rw [upF_ne _ _ _ (by omega)];exact h.fa i x hi⟩
theorem TQ.elem {W W1 W':World} {bot:Nat} {vO vE vE':Value} {f:Nat → Rw} {op:List Nat} {ex:List Elx} (h:TQ W bot vO vE f op ex) (hb:Below W.heap.size W W1) (d p:Int) (nm:ByteArray)
  (hO:W'.ownsRow bot 32 5 vE' (ex.length + 1) (ex.flatMap elC ++ [.int .i64 d,.string nm,.slice none 0 0,.string ⟨#[]⟩,.int .i64 p])) (hg:W1.grownBy W' vE.ownBlock) (hv:vE'.ownBlock = vE.ownBlock ∨ vE'.ownBlock = some W1.heap.size) :
  ∃ f',TQ W' bot vO vE' f' op (ex ++ [⟨⟨d,nm,[],⟨#[]⟩,p⟩,.slice none 0 0⟩]):=by
 have hf1:(f 1).v = vE:=by rw [h.f1];rfl
 have P1:=pf_app h.pf hb 1 (r:=elR vE' (ex ++ [⟨⟨d,nm,[],⟨#[]⟩,p⟩,.slice none 0 0⟩])) (by
  unfold Rw.own elR
  rw [List.length_append,List.flatMap_append]
  exact hO) (by rw [hf1];exact hg) (by rw [hf1];exact hv)
 have P2:=P1.nil (3 + 2 * ex.length) (r:=atR ⟨⟨d,nm,[],⟨#[]⟩,p⟩,.slice none 0 0⟩) rfl rfl rfl
 refine ⟨_,P2,?_,?_,fun i x hi=>?_⟩
 ·rw [upF_ne _ _ _ (by omega),upF_ne _ _ _ (by omega),h.f0]
 ·rw [upF_ne _ _ _ (by omega),upF_same]
 ·by_cases hjl:i < ex.length
  ·rw [List.getElem?_append_left hjl] at hi
   rw [upF_ne _ _ _ (by omega),upF_ne _ _ _ (by omega)]
   exact h.fa i x hi
  ·have hje:i = ex.length:=by
    have:=(List.getElem?_eq_some_iff.1 hi).1
    rw [List.length_append,List.length_singleton] at this
    omega
   subst hje
   rw [List.getElem?_append_right (Nat.le_refl _),Nat.sub_self] at hi
   cases hi
   rw [upF_same]
theorem TQ.setE {W:World} {bot:Nat} {vO:Value} {f:Nat → Rw} {op:List Nat} {ex:List Elx} {g cap:Nat} {z:PF W bot f} (h0:f 0 = opI vO op) (h1:f 1 = elR (.slice (some ⟨g,0,none⟩) ex.length cap) ex)
  {i j:Nat} {x x':Elx} {u:Value} (hi:ex[i]? = some x) (hj:j < 5) (hu:elC x' = (elC x).set j u) (ha:∀ k y,ex[k]? = some y → k ≠ i → f (3 + 2 * k) = atR y) (ha':f (3 + 2 * i) = atR x') :
  ∃ f',TQ (W.setCell ⟨g,i * 5 + j,none⟩ u) bot vO (.slice (some ⟨g,0,none⟩) ex.length cap) f' op (ex.set i x'):=by
 have P:=z.put 1 (g:=g) (n:=ex.length) (cap:=cap) (o:=i * 5 + j) (by rw [h1];rfl) (by rw [h1];rfl) u
 have hil:=(List.getElem?_eq_some_iff.1 hi).1
 refine ⟨_,P,?_,?_,fun k y hk=>?_⟩
 ·rw [upF_ne _ _ _ (by omega),h0]
 ·rw [upF_same,h1]
  unfold elR
  rw [List.length_set,flat_set elC 5 elC_len ex i x x' j u hi hj hu]
 ·rw [upF_ne _ _ _ (by omega)]
  by_cases hki:k = i
  ·subst hki
   rw [List.getElem?_set_self hil] at hk
   cases hk
   exact ha'
  ·rw [List.getElem?_set_ne (fun e=>hki e.symm)] at hk
   exact ha k y hk hki
theorem TQ.attr {W W1 W':World} {bot g cap i:Nat} {vO av':Value} {f:Nat → Rw} {op:List Nat} {ex:List Elx} {x:Elx} (h:TQ W bot vO (.slice (some ⟨g,0,none⟩) ex.length cap) f op ex) (hi:ex[i]? = some x) (hb:Below W.heap.size W W1) (a:Att)
  (hO:W'.ownsRow bot 54 3 av' (x.e.ats.length + 1) (attCells x.e.ats ++ [.string a.nm,.string a.vl,.int .i64 a.p])) (hg:W1.grownBy W' x.av.ownBlock) (hv:av'.ownBlock = x.av.ownBlock ∨ av'.ownBlock = some W1.heap.size) :
  ∃ f',TQ (W'.setCell ⟨g,i * 5 + 2,none⟩ av') bot vO (.slice (some ⟨g,0,none⟩) ex.length cap) f' op (ex.set i ⟨{ x.e with ats:=x.e.ats ++ [a] },av'⟩):=by
 have hfa:(f (3 + 2 * i)).v = x.av:=by rw [h.fa i x hi];rfl
 have P1:=pf_app h.pf hb (3 + 2 * i) (r:=atR ⟨{ x.e with ats:=x.e.ats ++ [a] },av'⟩) (by
  unfold Rw.own atR
  dsimp only
  rw [List.length_append]
  unfold attCells at hO ⊢
  rw [List.flatMap_append]
  exact hO) (by rw [hfa];exact hg) (by rw [hfa];exact hv)
 refine TQ.setE (z:=P1) (by rw [upF_ne _ _ _ (by omega),h.f0]) (by rw [upF_ne _ _ _ (by omega),h.f1]) hi (by decide) rfl (fun k y hk hne=>?_) (upF_same _ _ _)
 rw [upF_ne _ _ _ (by omega)]
 exact h.fa k y hk
theorem TQ.text {W:World} {bot g cap i:Nat} {vO:Value} {f:Nat → Rw} {op:List Nat} {ex:List Elx} {x:Elx} (h:TQ W bot vO (.slice (some ⟨g,0,none⟩) ex.length cap) f op ex) (hi:ex[i]? = some x) (t:ByteArray) :
  ∃ f',TQ (W.setCell ⟨g,i * 5 + 3,none⟩ (.string t)) bot vO (.slice (some ⟨g,0,none⟩) ex.length cap) f' op (ex.set i ⟨{ x.e with tx:=t },x.av⟩) :=
 TQ.setE (z:=h.pf) h.f0 h.f1 hi (by decide) rfl (fun k y hk _=>h.fa k y hk) (by rw [h.fa i x hi];rfl)
structure RQ (W:World) (bot:Nat) (vO vE:Value) (s:PSt):Prop where
 hB:bot ≤ W.heap.size
 ok:POk s
 x:∃ f ex,TQ W bot vO vE f s.op ex ∧ ex.map Elx.e = s.es
theorem RQ.keep {W W':World} {bot:Nat} {vO vE:Value} {s:PSt} (h:RQ W bot vO vE s) (hb:Below W.heap.size W W'):RQ W' bot vO vE s:=by
 obtain ⟨f,ex,hT,he⟩:=h.x
 exact ⟨Nat.le_trans h.hB hb.size,h.ok,f,ex,hT.keep hb,he⟩
theorem RQ.fresh {W:World} {bot:Nat} (hB:bot ≤ W.heap.size):RQ W bot (.slice none 0 0) (.slice none 0 0) ⟨[],[]⟩:=by
 refine ⟨hB,POk.nil,fun c=>if c = 0 then opI (.slice none 0 0) [] else elR (.slice none 0 0) [],[],⟨⟨fun c=>?_,fun c c' _ k hk=>?_⟩,rfl,rfl,fun i x hi=>(by cases hi)⟩,rfl⟩
 ·split
  ·exact World.ownsRow_nil _ _ _ 1
  ·exact World.ownsRow_nil _ _ _ 5
 ·split at hk <;> cases hk
structure LQ (W:World) (bot:Nat) (vO vE:Value) (s:PSt) (i n:Nat) (e:El) (f:Nat → Rw) (ex:List Elx) (x:Elx) (gO cO gE cE:Nat):Prop where
 hO:vO = .slice (some ⟨gO,0,none⟩) (n + 1) cO
 hE:vE = .slice (some ⟨gE,0,none⟩) s.es.length cE
 ln:s.op.length = n + 1
 hc:n + 1 ≤ cO
 tq:TQ W bot vO vE f s.op ex
 he:ex.map Elx.e = s.es
 hx:ex[i]? = some x
 xe:x.e = e
 el:ex.length = s.es.length
 il:i < s.es.length
theorem RQ.last {W:World} {bot:Nat} {vO vE:Value} {s:PSt} {i:Nat} (h:RQ W bot vO vE s) (hi:s.op.getLast? = some i):∃ e,s.es[i]? = some e ∧ ∃ n f ex x gO cO gE cE,LQ W bot vO vE s i n e f ex x gO cO gE cE:=by
 have hil:=h.ok.lt i (List.mem_of_getLast? hi)
 obtain ⟨e,he0⟩:∃ e,s.es[i]? = some e:=⟨s.es[i],List.getElem?_eq_getElem hil⟩
 obtain ⟨f,ex,hT,he⟩:=h.x
 have hl:ex.length = s.es.length:=by rw [← he,List.length_map]
 have hsp:=last_split hi
 have hn:s.op.length = s.op.dropLast.length + 1:=by have:=congrArg List.length hsp;simpa using this
 obtain ⟨x,hx,hxe⟩:∃ x,ex[i]? = some x ∧ x.e = e:=by
  rw [← he,List.getElem?_map] at he0
  obtain ⟨x,hx,hxe⟩:=Option.map_eq_some_iff.1 he0
  exact ⟨x,hx,hxe⟩
 obtain ⟨gO,cO,hvO⟩:=own_shape hT.own0 (by omega)
 obtain ⟨gE,cE,hvE⟩:=own_shape hT.own1 (by omega)
 have h0:=hT.own0
 rw [hvO] at h0
 have hcap:=own_cap h0
 rw [hn] at hvO hcap
 rw [hl] at hvE
 exact ⟨e,he0,_,f,ex,x,gO,cO,gE,cE,hvO,hvE,hn,hcap,hT,he,hx,hxe,hl,hil⟩
theorem LQ.cells {W:World} {bot:Nat} {vO vE:Value} {s:PSt} {i n:Nat} {e:El} {f:Nat → Rw} {ex:List Elx} {x:Elx} {gO cO gE cE:Nat} (h:LQ W bot vO vE s i n e f ex x gO cO gE cE) (hi:s.op.getLast? = some i) :
  W.cell? ⟨gO,n,none⟩ = some (.int .i64 (i:Int)) ∧ W.cell? ⟨gE,i * 5 + 1,none⟩ = some (.string e.nm) ∧ W.cell? ⟨gE,i * 5 + 2,none⟩ = some x.av ∧ W.frozen? ⟨gE,i * 5 + 2,none⟩ = false ∧ W.cell? ⟨gE,i * 5 + 3,none⟩ = some (.string e.tx) ∧ W.frozen? ⟨gE,i * 5 + 3,none⟩ = false ∧ bot ≤ gE ∧ gE < W.heap.size ∧ gO < W.heap.size:=by
 have h0:=h.tq.own0
 have h1:=h.tq.own1
 rw [h.ln,h.hO] at h0
 rw [h.el,h.hE] at h1
 have hg:(s.op.map nV)[n]? = some (nV i):=by
  have hsp:=last_split hi
  have hn:s.op.dropLast.length = n:=by have:=congrArg List.length hsp;rw [List.length_append,h.ln] at this;simp at this;have h2:=h.ln;rw [List.length_dropLast,h2];omega
  rw [List.getElem?_map]
  conv=>lhs;rw [hsp]
  rw [List.getElem?_append_right (by omega),hn,Nat.sub_self]
  rfl
 have a0:=own_get h0 hg
 have b1:=own_get h1 (o:=i * 5 + 1) (flat_get elC 5 elC_len _ _ x h.hx 1 (by decide))
 have b2:=own_get h1 (o:=i * 5 + 2) (flat_get elC 5 elC_len _ _ x h.hx 2 (by decide))
 have b3:=own_get h1 (o:=i * 5 + 3) (flat_get elC 5 elC_len _ _ x h.hx 3 (by decide))
 have hxe:=h.xe
 subst hxe
 exact ⟨a0.1,b1.1,b2.1,b2.2.1,b3.1,b3.2.1,b2.2.2.1,b2.2.2.2,a0.2.2.2⟩
theorem LQ.arow {W:World} {bot:Nat} {vO vE:Value} {s:PSt} {i n:Nat} {e:El} {f:Nat → Rw} {ex:List Elx} {x:Elx} {gO cO gE cE:Nat} (h:LQ W bot vO vE s i n e f ex x gO cO gE cE):∃ pa ca,x.av = .slice pa e.ats.length ca ∧ ARow W pa W.heap.size e.ats:=by
 have h1:=h.tq.ownA h.hx
 rw [h.xe] at h1
 rcases h1.2 with ⟨e1,h0⟩ | ⟨g',cap,cur,e1,hb,hg,hn,hm,hs,hx⟩
 ·refine ⟨none,0,by rw [e1,h0],⟨fun j t ht=>?_⟩⟩
  rw [List.eq_nil_of_length_eq_zero h0] at ht
  cases ht
 ·refine ⟨_,cap,e1,⟨fun j t ht=>?_⟩⟩
  rw [e1] at h1
  have hgl:g' < W.heap.size:=(Array.getElem?_eq_some_iff.1 hg).1
  have a0:=own_get h1 (o:=j * 3 + 0) (flat_get attC 3 (fun _=>rfl) _ j t ht 0 (by decide))
  have a1:=own_get h1 (o:=j * 3 + 1) (flat_get attC 3 (fun _=>rfl) _ j t ht 1 (by decide))
  have a2:=own_get h1 (o:=j * 3 + 2) (flat_get attC 3 (fun _=>rfl) _ j t ht 2 (by decide))
  exact ⟨g',0,rfl,hgl,by rw [Nat.zero_add];exact a0.1,by rw [Nat.zero_add];exact a1.1,by rw [Nat.zero_add];exact a2.1⟩
theorem rq_grown {bot:Nat} {w W1 w2:World} {b:Option Nat} (hB:bot ≤ w.heap.size) (hb:Below w.heap.size w W1) (hg:W1.grownBy w2 b) (ho:∀ k,b = some k → bot ≤ k):Below bot w w2 :=
 ⟨hg.os.trans hb.os,hg.tape.trans hb.tape,hg.output.trans hb.output,Nat.le_trans hb.size hg.size,fun k hk=>(hg.block k (by have:=hb.size;omega) (fun e=>by have:=ho k e.symm;omega)).trans (hb.block k (by omega))⟩
abbrev intO (n:Nat):Obj:=.cells #[.int .i64 (n:Int)] 3
abbrev elmO (d:Int) (nm:ByteArray) (p:Nat):Obj:=.cells #[.int .i64 d,.string nm,.slice none 0 0,.string ⟨#[]⟩,.int .i64 (p:Int)] 32
theorem rq_open {wr:World} {bot:Nat} {po pe:Option Addr} {co ce:Nat} {s:PSt} (h:RQ wr bot (.slice po s.op.length co) (.slice pe s.es.length ce) s) (nm:ByteArray) (p:Nat) (o:Obj)
  (hok':POk ⟨s.op ++ [s.es.length],s.es ++ [⟨(s.op.length:Int) + 1,nm,[],⟨#[]⟩,(p:Int)⟩]⟩) :
  ∃ p2 c2 w2 p3 c3 w3,(∀ ty,(Builtin.append_ #[26,26] ty #[.slice po s.op.length co,.slice (some ⟨(wr.alloc o).heap.size,0,none⟩) 1 1]).run Tryz.prog ((wr.alloc o).alloc (intO s.es.length)) = .ok (.slice p2 (s.op.length + 1) c2) w2) ∧ w2.heap[wr.heap.size]? = some o ∧ (w2.alloc (elmO ((s.op.length:Int) + 1) nm p)).heap[wr.heap.size]? = some o ∧
   (∀ ty,(Builtin.append_ #[24,24] ty #[.slice pe s.es.length ce,.slice (some ⟨w2.heap.size,0,none⟩) 1 1]).run Tryz.prog (w2.alloc (elmO ((s.op.length:Int) + 1) nm p)) = .ok (.slice p3 (s.es.length + 1) c3) w3) ∧
   RQ w3 bot (.slice p2 (s.op.length + 1) c2) (.slice p3 (s.es.length + 1) c3) ⟨s.op ++ [s.es.length],s.es ++ [⟨(s.op.length:Int) + 1,nm,[],⟨#[]⟩,(p:Int)⟩]⟩ ∧ Below bot (wr.alloc o) w3:=by
 obtain ⟨f,ex,hTQ0,he⟩:=h.x
 obtain ⟨W,hW⟩:∃ W,W = wr.alloc o:=⟨_,rfl⟩
 obtain ⟨T,hTe⟩:∃ T,T = wr.heap.size:=⟨_,rfl⟩
 have hbo:Below wr.heap.size wr W:=by rw [hW];exact bel1 wr o
 have hTQ:=hTQ0.keep hbo
 have hBW:bot ≤ W.heap.size:=Nat.le_trans h.hB hbo.size
 have hT:W.heap[T]? = some o:=by rw [hW,hTe];exact theap_new wr o
 rw [← hW,← hTe]
 have hl:ex.length = s.es.length:=by rw [← he,List.length_map]
 have hol:=h.ok.ol
 have hel:=h.ok.el
 have hTl:T < W.heap.size:=(Array.getElem?_eq_some_iff.1 hT).1
 have hb1:=bel1 W (intO s.es.length)
 obtain ⟨v2,w2,hrun,hown,hgr,hbk⟩:=ap1 (t:=26) Tryz.underlying26 infoIn rfl (by decide) (hTQ.keep hb1).own0 (theap_new W (intO s.es.length)) rfl (fun u hu=>by simp only [List.mem_cons,List.not_mem_nil,or_false] at hu;subst hu;rfl) (by omega) (by decide) (Nat.le_trans hBW hb1.size)
 have hB2:=rq_grown hBW hb1 hgr (fun k hk=>(ownLt hTQ.own0 hk).1)
 obtain ⟨f2,hT2⟩:=hTQ.push hb1 (k:=s.es.length) hown hgr hbk
 obtain ⟨p2,c2,hp2⟩:=own_sl hown
 subst hp2
 have hT2':w2.heap[T]? = some o:=(hgr.block T (by have:=hb1.size;omega) (fun e=>by have:=(ownLt hTQ0.own0 e.symm).2;omega)).trans ((hb1.block T hTl).trans hT)
 have hb3:=bel1 w2 (elmO ((s.op.length:Int) + 1) nm p)
 have hbw2:bot ≤ w2.heap.size:=Nat.le_trans hBW hB2.size
 obtain ⟨v3,w3,hrun3,hown3,hgr3,hbk3⟩:=ap1 (t:=24) Tryz.underlying24 infoEl rfl (by decide) (hT2.keep hb3).own1 (theap_new w2 (elmO ((s.op.length:Int) + 1) nm p)) rfl (fun u hu=>by simp only [List.mem_cons,List.not_mem_nil,or_false] at hu;rcases hu with rfl | rfl | rfl | rfl | rfl <;> rfl) (by omega) (by decide) (Nat.le_trans hbw2 hb3.size)
 have hB3:=rq_grown hbw2 hb3 hgr3 (fun k hk=>(ownLt hT2.own1 hk).1)
 obtain ⟨f3,hT3⟩:=hT2.elem hb3 ((s.op.length:Int) + 1) (p:Int) nm hown3 hgr3 hbk3
 obtain ⟨p3,c3,hp3⟩:=own_sl hown3
 rw [hl] at hp3
 subst hp3
 refine ⟨p2,c2,w2,p3,c3,w3,hrun,hT2',(hb3.block T (Array.getElem?_eq_some_iff.1 hT2').1).trans hT2',hrun3,⟨Nat.le_trans hbw2 hB3.size,hok',f3,_,hT3,?_⟩,hB2.trans hB3⟩
 rw [List.map_append,he]
 rfl
theorem rq_attr {W:World} {bot i n:Nat} {vO vE:Value} {s:PSt} {e:El} {f:Nat → Rw} {ex:List Elx} {x:Elx} {gO cO gE cE:Nat} (h:RQ W bot vO vE s) (hL:LQ W bot vO vE s i n e f ex x gO cO gE cE) (hi:s.op.getLast? = some i) (he0:s.es[i]? = some e) (nm vl:ByteArray) (p:Nat)
  (hok':POk ⟨s.op,s.es.set i { e with ats:=e.ats ++ [⟨nm,vl,(p:Int)⟩] }⟩) :
  ∃ pa ca p3 c3 w3,x.av = .slice pa e.ats.length ca ∧ (∀ ty,(Builtin.append_ #[30,30] ty #[.slice pa e.ats.length ca,.slice (some ⟨W.heap.size,0,none⟩) 1 1]).run Tryz.prog (W.alloc (attL nm vl p)) = .ok (.slice p3 (e.ats.length + 1) c3) w3) ∧
   w3.cell? ⟨gE,i * 5 + 2,none⟩ = some (.slice pa e.ats.length ca) ∧ w3.frozen? ⟨gE,i * 5 + 2,none⟩ = false ∧
   RQ (w3.setCell ⟨gE,i * 5 + 2,none⟩ (.slice p3 (e.ats.length + 1) c3)) bot vO vE ⟨s.op,s.es.set i { e with ats:=e.ats ++ [⟨nm,vl,(p:Int)⟩] }⟩ ∧ Below bot W (w3.setCell ⟨gE,i * 5 + 2,none⟩ (.slice p3 (e.ats.length + 1) c3)):=by
 obtain ⟨-,-,b2,b2f,-,-,hgE,hgEl,-⟩:=hL.cells hi
 have hats:x.e.ats = e.ats:=by rw [hL.xe]
 have hal:=h.ok.al e (List.mem_of_getElem? he0)
 have hb3:=bel1 W (attL nm vl p)
 have hTr:=hL.tq
 rw [hL.hE,← hL.el] at hTr
 obtain ⟨v3,w3,hrun,hown,hgr,hbk⟩:=ap1 (t:=30) Tryz.underlying30 infoAt rfl (by decide) ((hTr.keep hb3).ownA hL.hx) (theap_new W (attL nm vl p)) rfl (fun u hu=>by simp only [List.mem_cons,List.not_mem_nil,or_false] at hu;rcases hu with rfl | rfl | rfl <;> rfl) (by rw [hats];omega) (by decide) (Nat.le_trans h.hB hb3.size)
 have hB3:=rq_grown h.hB hb3 hgr (fun k hk=>(ownLt (hTr.ownA hL.hx) hk).1)
 obtain ⟨f3,hT3⟩:=hTr.attr hL.hx hb3 ⟨nm,vl,(p:Int)⟩ hown hgr hbk
 obtain ⟨pa,ca,hpa⟩:=own_sl (hTr.ownA hL.hx)
 obtain ⟨p3,c3,hp3⟩:=own_sl hown
 rw [hats] at hpa hp3
 have hgx:x.av.ownBlock ≠ some gE:=by
  have:=hTr.pf.apart 1 (3 + 2 * i) (by omega) gE (by rw [hTr.f1];rfl)
  rwa [hTr.fa _ _ hL.hx] at this
 have hgk:w3.heap[gE]? = W.heap[gE]?:=(hgr.block gE (Nat.lt_of_lt_of_le hgEl hb3.size) (fun e=>hgx e.symm)).trans (hb3.block gE hgEl)
 have hx2:w3.cell? ⟨gE,i * 5 + 2,none⟩ = some x.av:=by rw [← b2];simp only [World.cell?,hgk]
 have hf2:w3.frozen? ⟨gE,i * 5 + 2,none⟩ = false:=by rw [← b2f];simp only [World.frozen?,hgk]
 rw [hpa] at hx2 hrun
 have hBs:Below bot W (w3.setCell ⟨gE,i * 5 + 2,none⟩ v3):=hB3.setCell (p:=⟨gE,i * 5 + 2,none⟩) hgE v3
 refine ⟨pa,ca,p3,c3,w3,hpa,fun ty=>by rw [← hp3];exact hrun ty,hx2,hf2,by
  rw [← hp3]
  refine ⟨Nat.le_trans h.hB hBs.size,hok',f3,_,(by rw [hL.hE,← hL.el];exact hT3),?_⟩
  show List.map Elx.e (ex.set i _) = s.es.set i _
  rw [List.map_set,hL.he,hL.xe],by rw [← hp3];exact hBs⟩
theorem rq_text {W:World} {bot i n:Nat} {vO vE:Value} {s:PSt} {e:El} {f:Nat → Rw} {ex:List Elx} {x:Elx} {gO cO gE cE:Nat} (h:RQ W bot vO vE s) (hL:LQ W bot vO vE s i n e f ex x gO cO gE cE) (hi:s.op.getLast? = some i) (vl:ByteArray) (hok':POk ⟨s.op,s.es.set i { e with tx:=e.tx ++ vl }⟩) :
  RQ (W.setCell ⟨gE,i * 5 + 3,none⟩ (.string (e.tx ++ vl))) bot vO vE ⟨s.op,s.es.set i { e with tx:=e.tx ++ vl }⟩ ∧ Below bot W (W.setCell ⟨gE,i * 5 + 3,none⟩ (.string (e.tx ++ vl))):=by
 obtain ⟨-,-,-,-,-,-,hgE,hgEl,-⟩:=hL.cells hi
 have hTr:=hL.tq
 rw [hL.hE,← hL.el] at hTr
 obtain ⟨f3,hT3⟩:=hTr.text hL.hx (e.tx ++ vl)
 have hBs:Below bot W (W.setCell ⟨gE,i * 5 + 3,none⟩ (.string (e.tx ++ vl))):=(Below.refl _ W).setCell (p:=⟨gE,i * 5 + 3,none⟩) hgE _
 refine ⟨⟨Nat.le_trans h.hB hBs.size,hok',f3,_,(by rw [hL.hE,← hL.el];exact hT3),?_⟩,hBs⟩
 show List.map Elx.e (ex.set i _) = s.es.set i _
 rw [List.map_set,hL.he,hL.xe]
theorem rq_pop {W:World} {bot i n:Nat} {vO vE:Value} {s:PSt} {e:El} {f:Nat → Rw} {ex:List Elx} {x:Elx} {gO cO gE cE:Nat} (h:RQ W bot vO vE s) (hL:LQ W bot vO vE s i n e f ex x gO cO gE cE) (hi:s.op.getLast? = some i) :
  RQ W bot (.slice (some ⟨gO,0,none⟩) n cO) vE ⟨s.op.dropLast,s.es⟩:=by
 have hsp:=last_split hi
 have hn:s.op.dropLast.length = n:=by rw [List.length_dropLast,hL.ln];omega
 have hTr:=hL.tq
 rw [hL.hO,hsp,← hn] at hTr
 obtain ⟨f3,hT3⟩:=hTr.pop
 exact ⟨h.hB,takeT_ok (bl:=fun _=>true) (t:=⟨3,⟨#[]⟩,⟨#[]⟩,0⟩) rfl h.ok,f3,ex,(by rw [← hn];exact hT3),hL.he⟩
theorem RQ.erow {W:World} {bot:Nat} {vO:Value} {p:Option Addr} {c n:Nat} {s:PSt} (h:RQ W bot vO (.slice p n c) s):ERow W p W.heap.size s.es:=by
 obtain ⟨f,ex,hT,he⟩:=h.x
 have hl:ex.length = s.es.length:=by rw [← he,List.length_map]
 refine ⟨fun i e hi=>?_⟩
 obtain ⟨x,hx,rfl⟩:∃ x,ex[i]? = some x ∧ x.e = e:=by
  rw [← he,List.getElem?_map] at hi
  obtain ⟨x,hx,hxe⟩:=Option.map_eq_some_iff.1 hi
  exact ⟨x,hx,hxe⟩
 have h1:=hT.own1
 obtain ⟨g,cap,eg⟩:=own_shape h1 (show 0 < ex.length by have:=(List.getElem?_eq_some_iff.1 hx).1;omega)
 rw [eg] at h1
 injection eg with eg _ _
 subst eg
 have a0:=own_get h1 (o:=i * 5 + 0) (flat_get elC 5 elC_len _ i x hx 0 (by decide))
 have a1:=own_get h1 (o:=i * 5 + 1) (flat_get elC 5 elC_len _ i x hx 1 (by decide))
 have a2:=own_get h1 (o:=i * 5 + 2) (flat_get elC 5 elC_len _ i x hx 2 (by decide))
 have a3:=own_get h1 (o:=i * 5 + 3) (flat_get elC 5 elC_len _ i x hx 3 (by decide))
 have a4:=own_get h1 (o:=i * 5 + 4) (flat_get elC 5 elC_len _ i x hx 4 (by decide))
 have hA:=hT.ownA hx
 have hAr:∃ pa ca,x.av = .slice pa x.e.ats.length ca ∧ ARow W pa W.heap.size x.e.ats:=by
  rcases hA.2 with ⟨e1,h0⟩ | ⟨g',cap',cur,e1,hb,hg,hn,hm,hs,hxx⟩
  ·refine ⟨none,0,by rw [e1,h0],⟨fun j t ht=>?_⟩⟩
   rw [List.eq_nil_of_length_eq_zero h0] at ht
   cases ht
  ·refine ⟨_,cap',e1,⟨fun j t ht=>?_⟩⟩
   rw [e1] at hA
   have b0:=own_get hA (o:=j * 3 + 0) (flat_get attC 3 (fun _=>rfl) _ j t ht 0 (by decide))
   have b1:=own_get hA (o:=j * 3 + 1) (flat_get attC 3 (fun _=>rfl) _ j t ht 1 (by decide))
   have b2:=own_get hA (o:=j * 3 + 2) (flat_get attC 3 (fun _=>rfl) _ j t ht 2 (by decide))
   exact ⟨g',0,rfl,(Array.getElem?_eq_some_iff.1 hg).1,by rw [Nat.zero_add];exact b0.1,by rw [Nat.zero_add];exact b1.1,by rw [Nat.zero_add];exact b2.1⟩
 obtain ⟨pa,ca,hav,hAR⟩:=hAr
 refine ⟨g,0,pa,ca,rfl,a0.2.2.2,?_,?_,?_,?_,?_,hAR⟩
 ·rw [Nat.zero_add];exact a0.1
 ·rw [Nat.zero_add];exact a1.1
 ·rw [Nat.zero_add,← hav];exact a2.1
 ·rw [Nat.zero_add];exact a3.1
 ·rw [Nat.zero_add];exact a4.1
theorem refHas_any (l:List Att) (pa:Option Addr) (ca:Nat) (nm:ByteArray) (w:World) (ha:ARow w pa w.heap.size l) (hl:l.length ≤ 1000000) :
  Calls Tryz.prog 30 #[.slice pa l.length ca,.int .i64 (l.length:Int),.string nm] w fun e w'=>e = .returned (.bool (hasA l nm)) ∧ ∃ m,w' = w.drewN m:=by
 go_enter Tryz.func30,Tryz.ntmps30
 go_wp2_with fail
 go_loopw [7] (fun n wr=>∃ (j d:Nat),j ≤ l.length ∧ n = .int .i64 j ∧ Hid (wr = w.drewN d) ∧ Hid (hasA l nm = hasA (l.drop j) nm)) (fun n _=>l.length - (RowKit.intOf n).toNat)
 case atStart=>exact ⟨0,0,Nat.zero_le _,by go_num,Hid.mkA rfl,Hid.mkA rfl⟩
 case round =>
  obtain ⟨j,d,hj,rfl,hd,hq⟩:=hrel
  by_cases hlt:j < l.length
  ·obtain ⟨a,hx⟩:∃ a,l[j]? = some a:=⟨l[j],List.getElem?_eq_getElem hlt⟩
   obtain ⟨g,o,rfl,hg,q0,q1,q2⟩:=ha.c j a hx
   have r0:wr.cell? ⟨g,o + j * 3,none⟩ = some (.string a.nm):=by rw [hd.out];exact q0
   have hlti:(j:Int) < l.length:=by omega
   have hdr:=hasA_drop hx nm
   clear q0 q1 q2 ha hx
   by_cases hn:a.nm = nm
   ·have HX:Hid (hasA l nm = true):=Hid.mkA (by rw [hq.out,hdr,decide_eq_true hn];rfl)
    subst hn
    clear hq hdr
    go_wp2_with fail
    go_ret
    exact ⟨by rw [HX.out];rfl,d,hd.out⟩
   ·have HX:Hid (hasA l nm = hasA (l.drop (j + 1)) nm):=Hid.mkA (by rw [hq.out,hdr,decide_eq_false hn];rfl)
    have z:=beq_ba hn
    clear hq hdr hn
    go_wp2_with fail
    go_roundw
    case rel=>exact ⟨j + 1,d,by omega,by go_num,hd,HX⟩
    case measure=>simp [RowKit.intOf];omega
  ·obtain rfl:j = l.length:=by omega
   have HX:Hid (hasA l nm = false):=Hid.mkA (by rw [hq.out,List.drop_length];rfl)
   clear hq
   go_wp2_with fail
   go_ret
   exact ⟨by rw [HX.out];rfl,d,hd.out⟩
theorem takeT_0 (bl:ByteArray → Bool) (t:PSt) (nm vl:ByteArray) (p:Nat) {k:Nat} (hk:k = 0):takeT bl t ⟨k,nm,vl,p⟩ = (if t.op = [] ∧ t.es ≠ [] then .error 53 else if t.op.length = 16 then .error 50 else if t.es.length = 20000 then .error 54
 else .ok ⟨t.op ++ [t.es.length],t.es ++ [⟨(t.op.length:Int) + 1,nm,[],⟨#[]⟩,(p:Int)⟩]⟩):=by subst hk;rfl
theorem takeT_1 (bl:ByteArray → Bool) (t:PSt) (nm vl:ByteArray) (p:Nat) {k i:Nat} {e:El} (hk:k = 1) (hi:t.op.getLast? = some i) (he:t.es[i]? = some e):takeT bl t ⟨k,nm,vl,p⟩ = (if hasA e.ats nm then .error 52 else if e.ats.length = 24 then .error 54 else .ok ⟨t.op,t.es.set i { e with ats:=e.ats ++ [⟨nm,vl,(p:Int)⟩] }⟩):=by
 subst hk
 show (match t.op.getLast? with
  | none=>_
  | some i=>match t.es[i]? with
   | none=>_
   | some e=>_) = _
 rw [hi]
 dsimp only
 rw [he]
theorem takeT_3 (bl:ByteArray → Bool) (t:PSt) (nm vl:ByteArray) (p:Nat) {k:Nat} (hk:k = 3):takeT bl t ⟨k,nm,vl,p⟩ = .ok ⟨t.op.dropLast,t.es⟩:=by subst hk;rfl
theorem takeT_4n (bl:ByteArray → Bool) (t:PSt) (nm vl:ByteArray) (p:Nat) {k:Nat} (hk:k = 4) (hi:t.op.getLast? = none):takeT bl t ⟨k,nm,vl,p⟩ = .error 51:=by
 subst hk
 show (match t.op.getLast? with
  | none=>_
  | some i=>_) = _
 rw [hi]
theorem takeT_4 (bl:ByteArray → Bool) (t:PSt) (nm vl:ByteArray) (p:Nat) {k i:Nat} {e:El} (hk:k = 4) (hi:t.op.getLast? = some i) (he:t.es[i]? = some e):takeT bl t ⟨k,nm,vl,p⟩ = (if e.nm = nm then .ok ⟨t.op.dropLast,t.es⟩ else .error 51):=by
 subst hk
 show (match t.op.getLast? with
  | none=>_
  | some i=>match t.es[i]? with
   | none=>_
   | some e=>_) = _
 rw [hi]
 dsimp only
 rw [he]
theorem takeT_5n (bl:ByteArray → Bool) (t:PSt) (nm vl:ByteArray) (p:Nat) {k:Nat} (hk:k = 5) (hi:t.op.getLast? = none):takeT bl t ⟨k,nm,vl,p⟩ = (if bl vl then .ok t else .error 53):=by
 subst hk
 show (match t.op.getLast? with
  | none=>_
  | some i=>_) = _
 rw [hi]
theorem takeT_5 (bl:ByteArray → Bool) (t:PSt) (nm vl:ByteArray) (p:Nat) {k i:Nat} {e:El} (hk:k = 5) (hi:t.op.getLast? = some i) (he:t.es[i]? = some e):takeT bl t ⟨k,nm,vl,p⟩ = .ok ⟨t.op,t.es.set i { e with tx:=e.tx ++ vl }⟩:=by
 subst hk
 show (match t.op.getLast? with
  | none=>_
  | some i=>match t.es[i]? with
   | none=>_
   | some e=>_) = _
 rw [hi]
 dsimp only
 rw [he]
theorem takeT_x (bl:ByteArray → Bool) (t:PSt) (nm vl:ByteArray) (p:Nat) {k:Nat} (h0:k ≠ 0) (h1:k ≠ 1) (h3:k ≠ 3) (h4:k ≠ 4) (h5:k ≠ 5):takeT bl t ⟨k,nm,vl,p⟩ = .ok t:=by
 unfold takeT
 rw [if_neg h0,if_neg h1,if_neg h3,if_neg h4,if_neg h5]
theorem tApp {P:Program} {w:World} {ops:Array Oper} {rest:List Oper} {o:Oper} {a:Act} {Q:Exit → Act → World → Prop} (hgd:o.guard = none) (s x:Operand) (t tx:TypeId)
  (ho:o.op = .call { callee:=.builtin .append,args:=#[s,x],argTypes:=#[t,tx] }) (sv xv:Value) (hs:a.eval s = sv) (hx:a.eval x = xv) (Post:Value → World → Prop)
  (hrun:∃ v w',(∀ ty,(Builtin.append_ #[t,tx] ty #[sv,xv]).run P w = .ok v w') ∧ Post v w')
  (h:∀ v w',Post v w' → wpList P ops Q rest (a.put o.dst v) w'):wpList P ops Q (o :: rest) a w:=by
 obtain ⟨v,w',hr,hp⟩:=hrun
 refine wpList_plain hgd fun _ hK=>?_
 unfold Oper.wp execOp
 simp only [ho,resolve,invoke,builtin,Sem.run_bind,Sem.run_pure,Result.andThen_ok,List.map_toArray,List.map_cons,List.map_nil,hs,hx,hr]
 exact hK _ _ (h v w' hp)
theorem RQ.drewN {W:World} {bot:Nat} {vO vE:Value} {s:PSt} (h:RQ W bot vO vE s) (n:Nat):RQ (W.drewN n) bot vO vE s:=h.keep ⟨rfl,rfl,rfl,Nat.le_refl _,fun _ _=>rfl⟩
theorem LQ.drewN {W:World} {bot:Nat} {vO vE:Value} {s:PSt} {i n:Nat} {e:El} {f:Nat → Rw} {ex:List Elx} {x:Elx} {gO cO gE cE:Nat} (h:LQ W bot vO vE s i n e f ex x gO cO gE cE) (m:Nat):LQ (W.drewN m) bot vO vE s i n e f ex x gO cO gE cE :=
 ⟨h.hO,h.hE,h.ln,h.hc,h.tq.same (W':=W.drewN m) (fun _ _ _=>rfl),h.he,h.hx,h.xe,h.el,h.il⟩
end Go.Proofs.YtchfphakhmifmabGreatDoor

import Derived.Test.YtchfphakhmifmabGreatDoorXB5
import Derived.Test.YtchfphakhmifmabGreatDoorMU
import Derived.Test.YtchfphakhmifmabGreatDoorXScan
namespace Go.Proofs.YtchfphakhmifmabGreatDoor
set_option maxRecDepth 1000000
set_option maxHeartbeats 16000000
open Go.ChangeShapes Go.WideShapes Go.ChangeAt Go.RowKit Go.Shelf Go.Lib
def dg (x:Int):Nat:=if x = -1 then 0 else x.toNat + 2
theorem dg_no {b1 x1 b2 x2 b3 x3 x4 h:Bool} {p:Nat} (hh:(b1 && x1 && (!b2 || x2) && (!b3 || x3 || x4) && h) = false):dg (dclF b1 x1 b2 x2 b3 x3 x4 h p) = 0:=by
 unfold dclF dg
 rw [hh]
 rfl
theorem dg_yes {b1 x1 b2 x2 b3 x3 x4 h:Bool} {p:Nat} (hh:(b1 && x1 && (!b2 || x2) && (!b3 || x3 || x4) && h) = true):dg (dclF b1 x1 b2 x2 b3 x3 x4 h p) = p + 2:=by
 unfold dclF dg
 rw [hh,if_pos rfl,if_neg (by omega),Int.toNat_natCast]
theorem dcl_at {t:ByteArray} (hp:Lib.hasPrefix t.data.toList bXML.data.toList = true):declN t = dg (dclZ t 5):=by
 have h5:5 ≤ t.size:=by
  obtain ⟨r,hr⟩:=List.isPrefixOf_iff_prefix.1 hp
  have:=congrArg List.length hr
  rw [List.length_append,tl_len,tl_len] at this
  have e:bXML.size = 5:=rfl
  omega
 have hcp:cpB t bXML = (suf t 5,true):=by
  unfold cpB
  rw [if_pos hp]
  rfl
 unfold declN dr4 dr3 dr2 dr1
 rw [hcp]
 have l1:(z1 t 5).2.2 ≤ t.size:=saidZ_le _ _ _ h5
 have l2:(z2 t 5).2.2 ≤ t.size:=saidZ_le _ _ _ l1
 have l3:(z3 t 5).2.2 ≤ t.size:=saidZ_le _ _ _ l2
 rw [set_suf t 5 h5,show saidZ t 5 ⟨#[118,101,114,115,105,111,110]⟩ = z1 t 5 from rfl]
 unfold dclZ
 rw [enc_eq]
 have fin:∀ P:Nat,P ≤ t.size → dg (dclF true true false true false true true (hasN t (skN t P) ⟨#[63,62]⟩) (skN t P)) = (if (cpB (suf t (skN t P)) bSHUT).2 = true then t.size - (cpB (suf t (skN t P)) bSHUT).1.size else 0):=by
  intro P hP
  have m:=(skN_le t P hP).2
  rw [cp_suf]
  cases hh:hasN t (skN t P) ⟨#[63,62]⟩
  ·rw [dg_no (by simp)];simp
  ·have m2:skN t P + 2 ≤ t.size:=has_le m hh
   rw [dg_yes (by simp),if_pos rfl]
   rw [suf_size,show (⟨#[63,62]⟩:ByteArray).size = 2 from rfl]
   simp only [if_true]
   omega
 have st3:∀ P:Nat,P ≤ t.size → dg (dclF true true false true (saidZ t P nSTA).2.1 (decide ((saidZ t P nSTA).1 = ⟨#[121,101,115]⟩)) (decide ((saidZ t P nSTA).1 = ⟨#[110,111]⟩)) (hasN t (skN t (saidZ t P nSTA).2.2) ⟨#[63,62]⟩) (skN t (saidZ t P nSTA).2.2)) =
   (if (cpB (tlB (setB staB nSTA (suf t P)).1) bSHUT).2 = true then t.size - (cpB (tlB (setB staB nSTA (suf t P)).1) bSHUT).1.size else 0):=by
  intro P hP
  cases b:(saidZ t P nSTA).2.1
  ·have e:setB staB nSTA (suf t P) = (suf t P,false):=by rw [set_suf t P hP,b,if_neg (by simp)]
   rw [e,said_false b,tl_suf,← fin P hP]
   unfold dclF
   simp
  ·cases c:staB (saidZ t P nSTA).1
   ·have e:setB staB nSTA (suf t P) = (suf t P,false):=by rw [set_suf t P hP,b,c,if_neg (by simp)]
    rw [e,tl_suf,cp_suf,has_not (said_true b) (by decide) (by decide) (by decide)]
    unfold staB at c
    rw [Bool.or_eq_false_iff] at c
    rw [dg_no (by rw [c.1,c.2];simp)]
    simp
   ·have e:setB staB nSTA (suf t P) = (suf t (saidZ t P nSTA).2.2,true):=by rw [set_suf t P hP,b,c,if_pos ⟨rfl,rfl⟩]
    rw [e,tl_suf,← fin _ (saidZ_le t P nSTA hP)]
    unfold staB at c
    unfold dclF
    rw [Bool.not_true,Bool.false_or,c]
    simp
 by_cases h1:(z1 t 5).2.1 = true ∧ verB (z1 t 5).1 = true
 ·rw [if_pos h1]
  have h1b:decide ((z1 t 5).1 = ⟨#[49,46,48]⟩) = true:=h1.2
  rw [h1.1,h1b]
  simp only [Bool.true_and]
  have se:=set_suf t _ l1 encB nENC
  rw [show saidZ t (z1 t 5).2.2 nENC = z2 t 5 from rfl] at se
  cases b:(z2 t 5).2.1
  ·have e:(z2 t 5).2.2 = (z1 t 5).2.2:=said_false b
   rw [b,if_neg (by simp)] at se
   rw [se,← st3 _ l1]
   unfold z3
   rw [e]
   unfold dclF
   simp
  ·cases c:encB (z2 t 5).1
   ·have hh:hasN t (skN t (z1 t 5).2.2) nENC = true:=said_true b
    rw [b,c,if_neg (by simp)] at se
    rw [se,← st3 _ l1]
    have n3:=said_not (b:=nSTA) hh (by decide) (by decide) (by decide)
    rw [n3,said_false n3,has_not hh (by decide) (by decide) (by decide)]
    rw [dg_no (by simp),dg_no (by simp)]
   ·rw [b,c,if_pos ⟨rfl,rfl⟩] at se
    rw [se,← st3 _ l2]
    unfold z3 dclF
    simp
 ·rw [if_neg h1]
  have h2:((z1 t 5).2.1 && decide ((z1 t 5).1 = ⟨#[49,46,48]⟩)) = false:=by
   rw [Bool.eq_false_iff]
   intro h
   rw [Bool.and_eq_true] at h
   exact h1 h
  rw [dg_no (by rw [h2];rfl)]
  simp
def stA (s:ByteArray) (a:Nat):Option Nat:=if a = 0 ∧ Lib.hasPrefix s.data.toList bXML.data.toList = true then some 87 else sCo
def OneP (R:Nat) (s:ByteArray) (al:List IT) (a:Nat) (w:World) (e:Ending) (w':World):Prop :=
 Below R w w' ∧ ((∃ (l:List Tok) (c:Nat),a + l.length ≤ c ∧ a < c ∧ c ≤ s.size ∧ toksZ s (stA s a) a = (l ++ (toksZ s sCo c).1,(toksZ s sCo c).2) ∧ e = .returned (.bool true) ∧ RP w' R s c (al ++ l.map itT) 0 0) ∨
  (∃ (l:List Tok) (er p c:Nat),toksZ s (stA s a) a = (l,some (er,p)) ∧ e = .returned (.bool false) ∧ RP w' R s c (al ++ l.map itT) er p))
theorem pre_ch {s:ByteArray} (h:Lib.hasPrefix s.data.toList bXML.data.toList = true):5 ≤ s.size ∧ ch s 0 = 60 ∧ ch s 1 = 63:=by
 obtain ⟨r,hr⟩:=List.isPrefixOf_iff_prefix.1 h
 have hl:=congrArg List.length hr
 rw [List.length_append,tl_len,tl_len] at hl
 have e5:bXML.size = 5:=rfl
 refine ⟨by omega,?_,?_⟩
 ·unfold ch;rw [← hr];rfl
 ·unfold ch;rw [← hr];rfl
theorem stA_co {s:ByteArray} {a:Nat} (h:¬ ch s a = 60 ∨ ¬ (a + 1 < s.size ∧ ch s (a + 1) = 63)):stA s a = sCo:=by
 unfold stA
 rw [if_neg]
 rintro ⟨rfl,hp⟩
 have:=pre_ch hp
 rcases h with h | h
 ·exact h this.2.1
 ·exact h ⟨by omega,this.2.2⟩
theorem one_of {R:Nat} {s:ByteArray} {al:List IT} {a g:Nat} {w W w':World} {e:Ending} (hs:s.size ≤ 1048576) (ha:a < s.size) (hst:stA s a = sCo) (hc:contentZ s a = .go (some g) a none) (hnx:∀ nx b t,stepZ s g a = .go nx b (some t) → nx = sCo) (hW:Below R w W) (h:PZ R s al W (stepZ s g a) e w'):OneP R s al a w e w':=by
 obtain ⟨hb,hz⟩:=h
 refine ⟨hW.trans hb,?_⟩
 rw [hst]
 cases hq:stepZ s g a with
 | bad er p =>
  rw [hq] at hz
  obtain ⟨rfl,c,hr⟩:=hz
  exact .inr ⟨[],er,p,c,toksZ_bad (con_bad hc hq),rfl,by rw [List.map_nil,List.append_nil];exact hr⟩
 | go nx b t =>
  rw [hq] at hz
  cases t with
  | none=>exact absurd hz id
  | some t =>
   obtain ⟨rfl,hr⟩:=hz
   have e1:=hnx nx b t hq
   subst e1
   have hp:=con_told hc hq
   have hbd:=piece_told (ok_co hs (Nat.le_of_lt ha)) hp
   exact .inl ⟨[t],b,by show a + 1 ≤ b;omega,hbd.1,hbd.2.1,toksZ_told (ok_co hs (Nat.le_of_lt ha)) hp,rfl,hr⟩
theorem nx_text {s:ByteArray} {a:Nat}:∀ nx b t,stepZ s 113 a = .go nx b (some t) → nx = sCo:=by
 intro nx b t h
 rw [stepZ_text] at h
 unfold textZ at h
 cases hp:plainZ (s.extract a (upN [60] s a)) a with
 | mk o v =>
  rw [hp] at h
  cases o with
  | none=>injection h with h;exact h.symm
  | some ep=>cases h
theorem nx_close {s:ByteArray} {a:Nat}:∀ nx b t,stepZ s 114 a = .go nx b (some t) → nx = sCo:=by
 intro nx b t h
 rw [stepZ_endTag] at h
 unfold endZ at h
 cases hn:nameZ s (a + 2) with
 | bad e p=>rw [hn] at h;cases h
 | val nm c =>
  rw [hn] at h
  dsimp only at h
  cases hx:expZ s (skN s c) 62 with
  | some ep=>rw [hx] at h;cases h
  | none=>rw [hx] at h;injection h with h;exact h.symm
theorem nx_comment {s:ByteArray} {a:Nat}:∀ nx b t,stepZ s 115 a = .go nx b (some t) → nx = sCo:=by
 intro nx b t h
 rw [stepZ_comment] at h
 unfold commentZ at h
 cases hx:expZ s (a + 2) 45 with
 | some ep=>rw [hx] at h;cases h
 | none =>
  rw [hx] at h
  dsimp only at h
  cases hy:expZ s (a + 2 + 1) 45 with
  | some ep=>rw [hy] at h;cases h
  | none =>
   rw [hy] at h
   dsimp only at h
   split at h
   ·split at h
    ·cases h
    ·split at h
     ·injection h with h;exact h.symm
     ·cases h
   ·cases h
theorem phas {R:Nat} {s p:ByteArray} {a:Nat} {al:List IT} {w:World} (h:RP w R s a al 0 0) (ha:a ≤ s.size) (hs:s.size ≤ 1048576) (hp:p.size ≤ 1048576) :
  Calls Tryz.prog 98 #[.pointer (some ⟨R,0,none⟩),.string p] w fun e w'=>e = .returned (.bool (hasN s a p)) ∧ Hid (Below R w w') ∧ Hid (RP w' R s a al 0 0):=by
 obtain ⟨v,hx,ho⟩:=h.x
 refine (rhas R s a p w hx.ra ha (by omega) (by omega)).mono ?_
 rintro e w' ⟨rfl,hm,hr⟩
 exact ⟨rfl,hm.but.belowR (Nat.le_of_lt hx.lt),⟨v,hx.mv hm hr,own_but ho hm.but⟩⟩
theorem decl_bad {s:ByteArray} (hp:Lib.hasPrefix s.data.toList bXML.data.toList = true) (hd:dclZ s 5 = -1):toksZ s (stA s 0) 0 = ([],some (44,0)):=by
 have hz:declZ s = .bad 44 0:=by unfold declZ;rw [dcl_at hp,hd];rfl
 unfold stA
 rw [if_pos ⟨rfl,hp⟩]
 refine toksZ_bad ?_
 show runZ s 1 _ 0 = _
 simp only [runZ,stepZ_declaration,hz]
theorem dclF_cases (b1 x1 b2 x2 b3 x3 x4 h:Bool) (p:Nat):dclF b1 x1 b2 x2 b3 x3 x4 h p = -1 ∨ dclF b1 x1 b2 x2 b3 x3 x4 h p = (p:Int):=by
 unfold dclF
 split
 ·exact .inr rfl
 ·exact .inl rfl
theorem decl_told {s:ByteArray} (hs:s.size ≤ 1048576) (hp:Lib.hasPrefix s.data.toList bXML.data.toList = true) {d:Nat} (hd:dclZ s 5 = (d:Int)):declN s = d + 2 ∧ 5 ≤ d ∧ d + 2 ≤ s.size ∧ toksZ s (stA s 0) 0 = ([(⟨7,E0,s.extract 5 d,0⟩:Tok)] ++ (toksZ s sCo (d + 2)).1,(toksZ s sCo (d + 2)).2):=by
 have hD:declN s = d + 2:=by rw [dcl_at hp,hd];unfold dg;rw [if_neg (by omega),Int.toNat_natCast]
 have hpos:=declN_pos (s:=s) (by omega)
 have hz:declZ s = .go sCo (d + 2) (some ⟨7,E0,s.extract 5 d,0⟩):=by
  unfold declZ
  rw [if_neg (by omega),hD]
  rfl
 refine ⟨hD,by omega,by omega,?_⟩
 unfold stA
 rw [if_pos ⟨rfl,hp⟩]
 have hok:okO s 0 (some 87):=Or.inr ⟨hs,Or.inl ⟨rfl,rfl⟩⟩
 refine toksZ_told hok ?_
 show runZ s 1 _ 0 = _
 simp only [runZ,stepZ_declaration,hz]
theorem has_zero {s:ByteArray}:hasN s 0 bXML = Lib.hasPrefix s.data.toList bXML.data.toList:=by rw [← has_pre,List.drop_zero]
theorem pz_bool {R:Nat} {s:ByteArray} {al:List IT} {w w':World} {z:Sz} {e:Ending} (h:PZ R s al w z e w'):∃ b,e = .returned (.bool b):=by
 obtain ⟨_,hz⟩:=h
 cases z with
 | bad er p=>exact ⟨_,hz.1⟩
 | go nx b t =>
  cases t with
  | none=>exact absurd hz id
  | some t=>exact ⟨_,hz.1⟩
theorem op_bool {R:Nat} {s:ByteArray} {al:List IT} {a:Nat} {w w':World} {e:Ending} (h:OnePost R s al a w e w'):∃ b,e = .returned (.bool b):=by
 rcases h.2 with ⟨l,c,_,_,_,_,h,_⟩ | ⟨l,er,p,c,_,h,_⟩ <;> exact ⟨_,h⟩
theorem rone (R:Nat) (s:ByteArray) (a:Nat) (al:List IT) (w:World) (h:RP w R s a al 0 0) (ha:a < s.size) (hl:al.length ≤ a) (hs:s.size ≤ 1048576) :
  Calls Tryz.prog 77 #[.pointer (some ⟨R,0,none⟩)] w (OneP R s al a w):=by
 have c0:=h.c0
 have c1:=h.c1
 have hltI:(a:Int) < (s.size:Int):=by omega
 have ix:=ix_at s a (a:Int) rfl ha _ rfl
 have HR:=Hid.mk' h
 clear h
 by_cases h60:ch s a = 60
 ·by_cases he:a + 1 = s.size
  ·have hst:=stA_co (s:=s) (a:=a) (.inr (fun hh=>by omega))
   have hc:contentZ s a = .go (some 116) a none:=by
    unfold contentZ
    rw [if_neg (by omega),if_pos h60,if_neg (by omega),if_neg (by omega),if_neg (by omega)]
   have hz:startZ s a = .bad 41 s.size:=by
    unfold startZ nameZ
    rw [if_pos (by omega)]
   have HZ:=Hid.mk' (show toksZ s (stA s a) a = ([],some (41,a + 1)) by rw [hst,he];exact toksZ_bad (con_bad hc (by rw [stepZ_startTag];exact hz)))
   rw [h60] at ix
   have k1:((a:Int) + 1 == (s.size:Int)) = true:=beq_iff_eq.2 (by omega)
   have cF:=fun (W:World) (h:RP W R s a al 0 0)=>pfault (er:=41) (p:=a + 1) h
   have hcast:((a + 1:Nat):Int) = (a:Int) + 1:=by omega
   rw [hcast] at cF
   clear h60 he hst hc hz
   go_enter Tryz.func77,Tryz.ntmps77
   go_wp2_with fail
   go_quiet (fail)
   go_wp2_with fail
   go_quiet (fail)
   go_wp2_with (go_at_call 75;refine (cF _ (HR.out.drewN _)).mono ?_;clear cF;rintro e w1 ⟨rfl,B1,H1⟩)
   go_ret
   exact ⟨bel_drewN (Below.refl _ _) _ |>.trans B1.out,.inr ⟨[],41,a + 1,_,HZ.out,rfl,by rw [List.map_nil,List.append_nil];exact H1.out⟩⟩
  ·have k1:((a:Int) + 1 == (s.size:Int)) = false:=beq_eq_false_iff_ne.2 (by omega)
   have k1n:¬ (a:Int) + 1 = (s.size:Int):=by omega
   have hlt2:(a:Int) + 1 < (s.size:Int):=by omega
   have ha1:a + 1 < s.size:=by omega
   have ix1:=ix_at s (a + 1) ((a:Int) + 1) (by omega) ha1 _ rfl
   clear he
   by_cases h47:ch s (a + 1) = 47
   ·have hst:=stA_co (s:=s) (a:=a) (.inr (fun hh=>by omega))
    have hc:contentZ s a = .go (some 114) a none:=by
     unfold contentZ
     rw [if_neg (by omega),if_pos h60,if_pos ⟨ha1,h47⟩]
    have HC:Hid (stA s a = sCo ∧ contentZ s a = .go (some 114) a none):=⟨hst,hc⟩
    have cK:=fun (W:World) (h:RP W R s a al 0 0)=>rclose R s a al W h (by omega) (by omega) hs
    rw [← stepZ_endTag s a] at cK
    rw [h60] at ix
    rw [h47] at ix1
    clear h60 h47 hst hc
    go_enter Tryz.func77,Tryz.ntmps77
    go_wp2_with fail
    go_quiet (fail)
    go_wp2_with fail
    go_quiet (fail)
    go_wp2_with fail
    go_quiet (fail)
    go_wp2_with (go_at_call 96;refine (cK _ (HR.out.drewN _)).mono ?_;clear cK;intro e w1 hq;have he:=hq.1;obtain ⟨b,rfl⟩:=pz_bool hq;replace hq:=Hid.mk' hq)
    go_ret
    exact one_of hs ha HC.out.1 HC.out.2 nx_close (bel_drewN (Below.refl _ _) _) hq.out
   ·have k2:((ch s (a + 1):Int) == 47) = false:=beq_eq_false_iff_ne.2 (by omega)
    have k3:decide ((ch s (a + 1):Int) = 47) = false:=decide_eq_false (by omega)
    by_cases h33:ch s (a + 1) = 33
    ·have hst:=stA_co (s:=s) (a:=a) (.inr (fun hh=>by omega))
     have hc:contentZ s a = .go (some 115) a none:=by
      unfold contentZ
      rw [if_neg (by omega),if_pos h60,if_neg (by omega),if_pos ⟨ha1,h33⟩]
     have HC:Hid (stA s a = sCo ∧ contentZ s a = .go (some 115) a none):=⟨hst,hc⟩
     have cK:=fun (W:World) (h:RP W R s a al 0 0)=>rcomment R s a al W h (by omega) (by omega) hs
     rw [← stepZ_comment s a] at cK
     rw [h60] at ix
     rw [h33] at ix1
     clear h60 h33 hst hc h47 k2 k3
     go_enter Tryz.func77,Tryz.ntmps77
     go_wp2_with fail
     go_quiet (fail)
     go_wp2_with fail
     go_quiet (fail)
     go_wp2_with fail
     go_quiet (fail)
     go_wp2_with fail
     go_quiet (fail)
     go_wp2_with (go_at_call 97;refine (cK _ (HR.out.drewN _)).mono ?_;clear cK;intro e w1 hq;have he:=hq.1;obtain ⟨b,rfl⟩:=pz_bool hq;replace hq:=Hid.mk' hq)
     go_ret
     exact one_of hs ha HC.out.1 HC.out.2 nx_comment (bel_drewN (Below.refl _ _) _) hq.out
    ·have k4:((ch s (a + 1):Int) == 33) = false:=beq_eq_false_iff_ne.2 (by omega)
     have k5:decide ((ch s (a + 1):Int) = 33) = false:=decide_eq_false (by omega)
     by_cases h63:ch s (a + 1) = 63
     ·rw [h63] at ix1
      clear k2 k3 k4 k5 h47 h33
      have hbad:¬ (a = 0 ∧ Lib.hasPrefix s.data.toList bXML.data.toList = true) → toksZ s (stA s a) a = ([],some (44,a)):=by
       intro hn
       have hst:stA s a = sCo:=by unfold stA;rw [if_neg hn]
       have hz:contentZ s a = .bad 44 a:=by
        unfold contentZ
        rw [if_neg (by omega),if_pos h60,if_neg (by omega),if_neg (by omega),if_pos ⟨ha1,h63⟩]
       rw [hst]
       refine toksZ_bad ?_
       show runZ s 2 _ a = _
       simp only [runZ,stepZ_content,hz]
      rw [h60] at ix
      clear h60 h63
      by_cases h0:a = 0
      ·have HA:=Hid.mk' h0
       have k0:((a:Int) == 0) = true:=beq_iff_eq.2 (by omega)
       have k0d:decide ((a:Int) = 0) = true:=decide_eq_true (by omega)
       have cH:=fun (W:World) (h:RP W R s a al 0 0)=>phas (p:=bXML) h (by omega) hs (by decide)
       rw [show hasN s a bXML = Lib.hasPrefix s.data.toList bXML.data.toList by rw [h0];exact has_zero] at cH
       cases hp:Lib.hasPrefix s.data.toList bXML.data.toList
       ·rw [hp] at cH
        have HZ:=Hid.mk' (hbad (fun hh=>by rw [hp] at hh;exact absurd hh.2 (by decide)))
        clear hbad hp h0
        go_enter Tryz.func77,Tryz.ntmps77
        go_wp2_with fail
        go_quiet (fail)
        go_wp2_with fail
        go_quiet (fail)
        go_wp2_with fail
        go_quiet (fail)
        go_wp2_with fail
        go_quiet (fail)
        go_wp2_with fail
        go_quiet (fail)
        go_wp2_with (first
         | (go_at_call 98;refine (cH _ (HR.out.drewN _)).mono ?_;clear cH;rintro e w1 ⟨rfl,B1,H1⟩;have g0:=H1.out.c0;have g1:=H1.out.c1)
         | (go_at_call 75;refine (pfault (er:=44) (p:=a) H1.out).mono ?_;rintro e w2 ⟨rfl,B2,H2⟩))
        go_ret
        exact ⟨bel_drewN (Below.refl _ _) _ |>.trans (B1.out.trans B2.out),.inr ⟨[],44,a,_,HZ.out,rfl,by rw [List.map_nil,List.append_nil];exact H2.out⟩⟩
       ·rw [hp] at cH
        have cD:=fun (W:World)=>rDeclared s 5 W (pre_ch hp).1 (by omega)
        have hdc:dclZ s 5 = -1 ∨ ∃ d:Nat,dclZ s 5 = (d:Int):=by
         rcases dclF_cases (z1 s 5).2.1 (decide ((z1 s 5).1 = ⟨#[49,46,48]⟩)) (z2 s 5).2.1 (decide (lowB (z2 s 5).1 = ⟨#[117,116,102,45,56]⟩)) (z3 s 5).2.1 (decide ((z3 s 5).1 = ⟨#[121,101,115]⟩)) (decide ((z3 s 5).1 = ⟨#[110,111]⟩)) (hasN s (skN s (z3 s 5).2.2) ⟨#[63,62]⟩) (skN s (z3 s 5).2.2) with h | h
         ·exact .inl h
         ·exact .inr ⟨_,h⟩
        rcases hdc with hd | ⟨d,hd⟩
        ·have HZ:=Hid.mk' (show toksZ s (stA s a) a = ([],some (44,a)) by rw [h0];exact decl_bad hp hd)
         rw [hd] at cD
         clear hbad hp hd h0
         go_enter Tryz.func77,Tryz.ntmps77
         go_wp2_with fail
         go_quiet (fail)
         go_wp2_with fail
         go_quiet (fail)
         go_wp2_with fail
         go_quiet (fail)
         go_wp2_with fail
         go_quiet (fail)
         go_wp2_with fail
         go_quiet (fail)
         go_wp2_with (first
          | (go_at_call 98;refine (cH _ (HR.out.drewN _)).mono ?_;clear cH;rintro e w1 ⟨rfl,B1,H1⟩;have g0:=H1.out.c0;have g1:=H1.out.c1)
          | (go_at_call 99;refine (cD _).mono ?_;clear cD;rintro e w2 ⟨rfl,B2⟩;have H2:=Hid.mk' (H1.out.below B2);have g2:=H2.out.c0;have g3:=H2.out.c1;have g4:=H1.out.lt)
          | (go_at_call 75;refine (pfault (er:=44) (p:=a) H2.out).mono ?_;rintro e w3 ⟨rfl,B3,H3⟩))
         go_ret
         exact ⟨bel_drewN (Below.refl _ _) _ |>.trans (B1.out.trans ((B2.mono (Nat.le_of_lt g4)).trans B3.out)),.inr ⟨[],44,a,_,HZ.out,rfl,by rw [List.map_nil,List.append_nil];exact H3.out⟩⟩
        ·have ht:=decl_told hs hp hd
         have HT:=Hid.mk' (show toksZ s (stA s a) a = ([(⟨7,E0,s.extract 5 d,0⟩:Tok)] ++ (toksZ s sCo (d + 2)).1,(toksZ s sCo (d + 2)).2) by rw [h0];exact ht.2.2.2)
         rw [hd] at cD
         have hd5:=ht.2.1
         have hds:=ht.2.2.1
         clear hbad hp hd ht h0
         have hsl:∀ w:World,(Instr.slice 9 (.string s) (some (.int .i64 5)) (some (.int .i64 (d:Int))) none).run Tryz.prog w = .ok (.string (s.extract 5 d)) w:=fun w=>slice_fromto s 5 d hd5 (by omega) w
         have j1:(5:Int) ≤ (d:Int):=by omega
         have j2:(d:Int) ≤ (s.size:Int):=by omega
         have j3:decide ((0:Int) ≤ (d:Int)) = true:=decide_eq_true (by omega)
         have cP:=fun (W:World) (h:RP W R s a al 0 0)=>rput R s a al 7 E0 (s.extract 5 d) 0 W h (by omega)
         generalize hU:s.extract 5 d = U at *
         clear hU
         go_enter Tryz.func77,Tryz.ntmps77
         go_wp2_with fail
         go_quiet (fail)
         go_wp2_with fail
         go_quiet (fail)
         go_wp2_with fail
         go_quiet (fail)
         go_wp2_with fail
         go_quiet (fail)
         go_wp2_with fail
         go_quiet (fail)
         go_wp2_with (first
          | (go_at_call 98;refine (cH _ (HR.out.drewN _)).mono ?_;clear cH;rintro e w1 ⟨rfl,B1,H1⟩;have g0:=H1.out.c0;have g1:=H1.out.c1)
          | (go_at_call 99;refine (cD _).mono ?_;clear cD;rintro e w2 ⟨rfl,B2⟩;have H2:=Hid.mk' (H1.out.below B2);have g2:=H2.out.c0;have g3:=H2.out.c1;have g4:=H1.out.lt)
          | (go_at_call 100;refine (cP _ H2.out).mono ?_;clear cP;rintro e w3 ⟨rfl,B3,H3⟩;have g5:=H3.c1;have g6:=H3.f1;replace H3:=Hid.mk' H3))
         go_ret
         have H4:=H3.out.place ((d:Int) + 2) (b:=d + 2) (by omega)
         refine ⟨(bel_drewN (Below.refl _ _) _ |>.trans (B1.out.trans ((B2.mono (Nat.le_of_lt g4)).trans B3))).setCell (Nat.le_refl _) _,.inl ⟨[⟨7,E0,U,0⟩],d + 2,by show a + 1 ≤ _;have:=HA.out;omega,by have:=HA.out;omega,hds,HT.out,rfl,H4⟩⟩
      ·have k0:((a:Int) == 0) = false:=beq_eq_false_iff_ne.2 (by omega)
       have k0n:¬ (a:Int) = 0:=by omega
       have HZ:=Hid.mk' (hbad (fun hh=>h0 hh.1))
       clear hbad h0
       go_enter Tryz.func77,Tryz.ntmps77
       go_wp2_with fail
       go_quiet (fail)
       go_wp2_with fail
       go_quiet (fail)
       go_wp2_with fail
       go_quiet (fail)
       go_wp2_with fail
       go_quiet (fail)
       go_wp2_with fail
       go_quiet (fail)
       go_wp2_with (go_at_call 75;refine (pfault (er:=44) (p:=a) (HR.out.drewN _)).mono ?_;rintro e w1 ⟨rfl,B1,H1⟩)
       go_ret
       exact ⟨bel_drewN (Below.refl _ _) _ |>.trans B1.out,.inr ⟨[],44,a,_,HZ.out,rfl,by rw [List.map_nil,List.append_nil];exact H1.out⟩⟩
     ·have hst:=stA_co (s:=s) (a:=a) (.inr (fun hh=>h63 hh.2))
      have hc:contentZ s a = .go (some 116) a none:=by
       unfold contentZ
       rw [if_neg (by omega),if_pos h60,if_neg (by omega),if_neg (by omega),if_neg (by omega)]
      have HC:=Hid.mk' hst
      have cK:=fun (W:World) (h:RP W R s a al 0 0)=>rstart R s a al W h ha hc hl hs
      have k6:((ch s (a + 1):Int) == 63) = false:=beq_eq_false_iff_ne.2 (by omega)
      have k7:decide ((ch s (a + 1):Int) = 63) = false:=decide_eq_false (by omega)
      have n1:¬ (ch s (a + 1):Int) = 47:=by omega
      have n2:¬ (ch s (a + 1):Int) = 33:=by omega
      have n3:¬ (ch s (a + 1):Int) = 63:=by omega
      rw [h60] at ix
      clear h60 h63 hst hc h47 h33
      generalize ch s (a + 1) = d at *
      go_enter Tryz.func77,Tryz.ntmps77
      go_wp2_with fail
      go_quiet (fail)
      go_wp2_with fail
      go_quiet (fail)
      go_wp2_with fail
      go_quiet (fail)
      go_wp2_with fail
      go_quiet (fail)
      go_wp2_with fail
      go_quiet (fail)
      go_wp2_with (go_at_call 101;refine (cK _ (HR.out.drewN _)).mono ?_;clear cK;intro e w1 hq;obtain ⟨b,rfl⟩:=op_bool hq;replace hq:=Hid.mk' hq)
      go_ret
      have hq2:=hq.out
      unfold OnePost at hq2
      unfold OneP
      rw [HC.out]
      exact ⟨bel_drewN (Below.refl _ _) _ |>.trans hq2.1,hq2.2⟩
 ·have hst:=stA_co (s:=s) (a:=a) (.inl h60)
  have hc:contentZ s a = .go (some 113) a none:=by
   unfold contentZ
   rw [if_neg (by omega),if_neg h60]
  have HC:Hid (stA s a = sCo ∧ contentZ s a = .go (some 113) a none):=⟨hst,hc⟩
  have cK:=fun (W:World) (h:RP W R s a al 0 0)=>rtext R s a al W h (by omega) (by omega) hs
  rw [← stepZ_text s a] at cK
  have k1:((ch s a:Int) == 60) = false:=beq_eq_false_iff_ne.2 (by omega)
  have k2:decide ((ch s a:Int) = 60) = false:=decide_eq_false (by omega)
  have k3:((ch s a:Int) != 60) = true:=bne_iff_ne.2 (by omega)
  have n1:¬ (ch s a:Int) = 60:=by omega
  clear h60 hst hc
  generalize ch s a = d at *
  go_enter Tryz.func77,Tryz.ntmps77
  go_wp2_with fail
  go_quiet (fail)
  go_wp2_with (go_at_call 95;refine (cK _ (HR.out.drewN _)).mono ?_;clear cK;intro e w1 hq;obtain ⟨b,rfl⟩:=pz_bool hq;replace hq:=Hid.mk' hq)
  go_ret
  exact one_of hs ha HC.out.1 HC.out.2 nx_text (bel_drewN (Below.refl _ _) _) hq.out
theorem rp_new (w:World) (s:ByteArray):RP (w.alloc (rdP s 0)) w.heap.size s 0 [] 0 0:=by
 have hh:(w.alloc (rdP s 0)).heap[w.heap.size]? = some (rdP s 0):=by
  show (w.heap.push _)[w.heap.size]? = _
  rw [Array.getElem?_push,if_pos rfl]
 refine ⟨.slice none 0 0,⟨?_,?_,?_,?_,?_,fun o=>?_⟩,World.ownsRow_nil _ _ _ 4⟩
 ·simp only [World.cell?,hh];rfl
 ·simp only [World.cell?,hh];rfl
 ·simp only [World.cell?,hh];rfl
 ·simp only [World.cell?,hh];rfl
 ·simp only [World.cell?,hh];rfl
 ·simp only [World.frozen?,hh];simp
theorem toks_begin {s:ByteArray} (hs:s.size ≤ 1048576) (hv:(faultN xmlB s).1 = 0):toksN s = toksZ s (stA s 0) 0:=by
 have key:∀ g,(g = 87 ∨ g = 88) → beginZ s = .go (some g) 0 none → pieceZ s (some 66) 0 = pieceZ s (some g) 0:=by
  intro g hg hz
  rcases hg with rfl | rfl
  ·show runZ s 3 _ 0 = runZ s 1 _ 0
   simp only [runZ,stepZ_begin,hz,stepZ_declaration]
   cases hq:declZ s with
   | bad e p=>rfl
   | go nx b t =>
    cases t with
    | some t=>rfl
    | none =>
     unfold declZ at hq
     split at hq <;> cases hq
  ·show runZ s 3 _ 0 = runZ s 2 _ 0
   rw [runZ,stepZ_begin,hz]
 have same:∀ g,pieceZ s (some 66) 0 = pieceZ s (some g) 0 → toksN s = toksZ s (some g) 0:=by
  intro g h
  unfold toksN toksZ
  simp only [toksF,h]
 unfold stA
 cases hp:Lib.hasPrefix s.data.toList bXML.data.toList
 ·rw [if_neg (by simp)]
  exact same _ (key _ (.inr rfl) (by unfold beginZ;rw [if_neg (by omega),if_pos hv,if_neg (by rw [hp];decide)]))
 ·rw [if_pos ⟨rfl,rfl⟩]
  exact same _ (key _ (.inl rfl) (by unfold beginZ;rw [if_neg (by omega),if_pos hv,if_pos hp]))
theorem toks_begin_bad {s:ByteArray} {e p:Nat} (h:beginZ s = .bad e p):toksN s = ([],some (e,p)):=by
 refine toksZ_bad ?_
 show runZ s 3 _ 0 = _
 rw [runZ,stepZ_begin,h]
theorem stA_pos {s:ByteArray} {a:Nat} (h:0 < a):stA s a = sCo:=by unfold stA;rw [if_neg (fun hh=>by omega)]
theorem toks_end {s:ByteArray} {a:Nat} (h:a = s.size):toksZ s (stA s a) a = ([],none):=by
 have hst:stA s a = sCo:=stA_co (.inr (fun hh=>by omega))
 rw [hst]
 have hz:contentZ s a = .go none a none:=by unfold contentZ;rw [if_pos (by omega)]
 refine toksZ_end (b:=a) ?_
 show runZ s 2 _ a = _
 simp only [runZ,stepZ_content,hz]
def erO:Option (Nat × Nat) → Nat × Nat
 | none=>(0,0)
 | some x=>x
theorem rRead (s:ByteArray) (w:World) (hsz:s.size ≤ 9223372036854775807) :
  Calls Tryz.prog 52 #[.string s] w fun e w'=>e = .returned (.pointer (some ⟨w.heap.size,0,none⟩)) ∧ Below w.heap.size w w' ∧ ∃ a,RP w' w.heap.size s a ((toksN s).1.map itT) (erO (toksN s).2).1 (erO (toksN s).2).2:=by
 have H0:=Hid.mk' (rp_new w s)
 have HB0:=Hid.mk' (bel1 w (rdP s 0))
 have hwz:(w.alloc (rdP s 0)).heap.size = w.heap.size + 1:=World.size_alloc _ _
 by_cases hs:1048576 < s.size
 ·have HZ:=Hid.mk' (toks_begin_bad (s:=s) (e:=45) (p:=1048576) (by unfold beginZ;rw [if_pos hs]))
  have hsI:(1048576:Int) < (s.size:Int):=by omega
  have cF:=pfault (er:=45) (p:=1048576) H0.out
  clear hs
  go_enter Tryz.func52,Tryz.ntmps52
  go_wp2_with (go_at_call 75;refine cF.mono ?_;clear cF;rintro e w1 ⟨rfl,B1,H1⟩)
  go_ret
  exact ⟨rfl,HB0.out.trans B1.out,_,by rw [HZ.out];exact H1.out⟩
 ·have hsI:¬ (1048576:Int) < (s.size:Int):=by omega
  have cC:=rChars s (w.alloc (rdP s 0)) (by omega)
  by_cases hv:(faultN xmlB s).1 = 0
  ·have hs2:s.size ≤ 1048576:=by omega
   have HT0:=Hid.mk' (toks_begin hs2 hv)
   rw [hv] at cC
   clear hs hv
   go_enter Tryz.func52,Tryz.ntmps52
   go_wp2_with (go_at_call 76;refine cC.mono ?_;clear cC;rintro e w1 ⟨rfl,B1⟩;have H1:=Hid.mk' (H0.out.below B1);have HB1:Hid (Below w.heap.size w w1):=HB0.out.trans (B1.mono (by omega)))
   go_loopw [] (fun wr=>∃ (a:Nat) (l:List Tok),Hid (l.length ≤ a ∧ a ≤ s.size ∧ toksN s = (l ++ (toksZ s (stA s a) a).1,(toksZ s (stA s a) a).2)) ∧ Hid (RP wr w.heap.size s a (l.map itT) 0 0) ∧ Hid (Below w.heap.size w wr)) (fun wr=>s.size - plcR wr w.heap.size)
   case atStart=>exact ⟨0,[],⟨Nat.le_refl _,Nat.zero_le _,by rw [HT0.out];rfl⟩,H1,HB1⟩
   case round =>
    clear HT0 H1 HB1 H0 HB0 hwz hsI
    obtain ⟨a,l,HL,HR,HB⟩:=hrel
    have g0:=HR.out.c1
    have hpl:=HR.out.plc
    have hle:=HL.out.2.1
    by_cases hlt:a < s.size
    ·have hltI:(a:Int) < (s.size:Int):=by omega
     have hltd:decide ((a:Int) < (s.size:Int)) = true:=decide_eq_true hltI
     have cO:=rone w.heap.size s a (l.map itT) wr HR.out hlt (by rw [List.length_map];exact HL.out.1) hs2
     go_wp2_with fail
     refine cO.mono ?_
     clear cO
     intro e w2 hq
     rcases hq with ⟨B2,⟨l2,c,h1,h2,h3,h4,rfl,H2⟩ | ⟨l2,er,p,c,h4,rfl,H2⟩⟩
     ·have HX:Hid (toksN s = ((l ++ l2) ++ (toksZ s (stA s c) c).1,(toksZ s (stA s c) c).2)):=by
       rw [HL.out.2.2,h4,stA_pos (by omega),List.append_assoc]
       exact rfl
      have HP:Hid (RP w2 w.heap.size s c ((l ++ l2).map itT) 0 0):=by rw [List.map_append];exact H2
      have hl2:(l ++ l2).length ≤ c:=by rw [List.length_append];have:=HL.out.1;omega
      clear h4 H2
      go_wp2_with fail
      refine ⟨⟨c,l ++ l2,⟨hl2,h3,HX.out⟩,HP,HB.out.trans B2⟩,?_⟩
      have hp2:=HP.out.plc
      omega
     ·have HX:Hid (toksN s = (l ++ l2,some (er,p))):=by rw [HL.out.2.2,h4];exact rfl
      have HP:Hid (RP w2 w.heap.size s c ((l ++ l2).map itT) er p):=by rw [List.map_append];exact H2
      clear h4 H2
      go_wp2_with fail
      go_ret
      exact ⟨rfl,HB.out.trans B2,c,by rw [HX.out];exact HP.out⟩
    ·have hea:a = s.size:=by omega
     have hltI:¬ (a:Int) < (s.size:Int):=by omega
     have hltd:decide ((a:Int) < (s.size:Int)) = false:=decide_eq_false hltI
     have HZ:=Hid.mk' (show toksN s = (l,none) by rw [HL.out.2.2,toks_end hea,List.append_nil])
     clear hea
     go_wp2_with fail
     go_ret
     exact ⟨rfl,HB.out,a,by rw [HZ.out];exact HR.out⟩
  ·have HZ:=Hid.mk' (toks_begin_bad (s:=s) (e:=(faultN xmlB s).1) (p:=(faultN xmlB s).2) (by unfold beginZ;rw [if_neg hs,if_neg hv]))
   generalize (faultN xmlB s).1 = E at *
   generalize (faultN xmlB s).2 = P at *
   have z1:¬ (E:Int) = 0:=by omega
   have z2:((E:Int) == 0) = false:=beq_eq_false_iff_ne.2 z1
   have cF:=fun (W:World) (h:RP W w.heap.size s 0 [] 0 0)=>pfault (er:=E) (p:=P) h
   clear hs hv
   go_enter Tryz.func52,Tryz.ntmps52
   go_wp2_with (first
    | (go_at_call 76;refine cC.mono ?_;clear cC;rintro e w1 ⟨rfl,B1⟩;have H1:=Hid.mk' (H0.out.below B1))
    | (go_at_call 75;refine (cF _ H1.out).mono ?_;clear cF;rintro e w2 ⟨rfl,B2,H2⟩))
   go_ret
   exact ⟨rfl,HB0.out.trans ((B1.mono (by omega)).trans B2.out),_,by rw [HZ.out];exact H2.out⟩
theorem RP.irow {w:World} {R:Nat} {s:ByteArray} {a:Nat} {al:List IT} {er fl:Nat} (h:RP w R s a al er fl):∃ pp cp,w.cell? ⟨R,2,none⟩ = some (.slice pp al.length cp) ∧ IRow w pp w.heap.size al:=by
 obtain ⟨v,hx,ho⟩:=h.x
 rcases ho.2 with ⟨rfl,h0⟩ | ⟨g,cap,cur,rfl,hb,hg,hn,hm,hs,hxx⟩
 ·refine ⟨none,0,by rw [hx.c2,h0],⟨fun i t ht=>?_⟩⟩
  have:al = []:=List.eq_nil_of_length_eq_zero h0
  subst this
  cases ht
 ·refine ⟨_,cap,hx.c2,?_⟩
  have:=IRow.of_own (w:=w) (base:=R + 1) (g:=g) (cap:=cap) (H:=w.heap.size) (al:=al) (bl:=[]) (n:=al.length) (by rw [List.append_nil];exact ho) (Array.getElem?_eq_some_iff.1 hg).1
  exact this
def LL (s:ByteArray):List Tok:=match (toksN s).2 with
 | none=>(toksN s).1
 | some _=>[]
def er1 (s:ByteArray):Nat:=(erO (toksN s).2).1
def er2 (s:ByteArray):Nat:=(erO (toksN s).2).2
def TokU (s:ByteArray) (w:World) (e:Ending) (w':World):Prop :=
 ∃ p c,e = .returned (.tuple #[.slice p (LL s).length c,.int .i64 (er1 s:Int),.int .i64 (er2 s:Int)]) ∧ Below w.heap.size w w' ∧ IRow w' p w'.heap.size ((LL s).map Tok.it)
theorem tokU (s:ByteArray) (w:World) (hE:Env w) (h7:7 ≤ w.heap.size) (hs:s.size ≤ 9223372036854775807):Calls Tryz.prog 25 #[.string s] w (TokU s w):=by
 refine (Tokens_any s w hE h7 hs).mono ?_
 rintro e w' ⟨hb,hq⟩
 unfold TokU LL er1 er2
 cases hz:(toksN s).2 with
 | none =>
  rw [hz] at hq
  obtain ⟨v,rfl,hr⟩:=hq
  obtain ⟨pp,cp,rfl,hi⟩:=hr.irow (Nat.le_refl _)
  exact ⟨pp,cp,rfl,hb,hi⟩
 | some x =>
  obtain ⟨er,p⟩:=x
  rw [hz] at hq
  exact ⟨none,0,hq,hb,⟨fun i t ht=>by cases ht⟩⟩
theorem rtokU (s:ByteArray) (w:World) (hs:s.size ≤ 9223372036854775807):Calls Tryz.prog 29 #[.string s] w (TokU s w):=by
 have cR:=rRead s w hs
 have HU:Hid (∀ e w',TokU s w e w' → TokU s w e w'):=fun _ _ h=>h
 unfold TokU LL er1 er2 at HU ⊢
 cases hz:(toksN s).2 with
 | none =>
  rw [hz] at cR HU
  dsimp only [erO] at cR HU ⊢
  generalize (toksN s).1 = L at *
  clear HU hz
  go_enter Tryz.func29,Tryz.ntmps29
  go_wp2_with (go_at_call 52;refine cR.mono ?_;clear cR;rintro e w1 ⟨rfl,B1,a,H1⟩;obtain ⟨v,hx,ho⟩:=H1.x;have d3:=hx.c3;obtain ⟨pp,cp,d2,hi⟩:=H1.irow;replace hi:=Hid.mk' hi;replace H1:=Hid.mk' H1;clear ho)
  exact bodyPost_ret (v:=.tuple #[.slice pp (L.map itT).length cp,.int .i64 0,.int .i64 0]) (by simp [results,Tryz.results29,go_sem]) rfl ⟨pp,cp,by rw [List.length_map];rfl,B1,hi.out⟩
 | some x =>
  obtain ⟨er,p⟩:=x
  have hne:er ≠ 0:=toksF_ne hz
  rw [hz] at cR HU
  dsimp only [erO] at cR HU ⊢
  generalize (toksN s).1 = L at *
  have z1:¬ (er:Int) = 0:=by omega
  have z2:((er:Int) == 0) = false:=beq_eq_false_iff_ne.2 z1
  clear HU hz hne
  go_enter Tryz.func29,Tryz.ntmps29
  go_wp2_with (go_at_call 52;refine cR.mono ?_;clear cR;rintro e w1 ⟨rfl,B1,a,H1⟩;obtain ⟨v,hx,ho⟩:=H1.x;have d3:=hx.c3;have d4:=hx.c4;clear ho H1)
  go_quiet (fail)
  go_wp2_with fail
  exact bodyPost_ret (v:=.tuple #[.slice none 0 0,.int .i64 (er:Int),.int .i64 (p:Int)]) (by simp [results,Tryz.results29,go_sem]) rfl ⟨none,0,rfl,bdN B1 _,⟨fun i t ht=>by cases ht⟩⟩
end Go.Proofs.YtchfphakhmifmabGreatDoor

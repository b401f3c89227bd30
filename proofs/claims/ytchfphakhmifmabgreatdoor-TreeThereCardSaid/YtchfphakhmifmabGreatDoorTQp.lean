import Derived.Test.YtchfphakhmifmabGreatDoorTA4
namespace Go.Proofs.YtchfphakhmifmabGreatDoor
set_option maxRecDepth 1000000
set_option maxHeartbeats 16000000
open Go.ChangeShapes Go.WideShapes Go.ChangeAt Go.RowKit Go.Shelf Go.Lib
theorem refParse_any (s:ByteArray) (w:World) (hs:s.size ≤ 9223372036854775807) :
  Calls Tryz.prog 11 #[.string s] w (ParseU s w):=by
 have cT:=rtokU s w hs
 by_cases h1:er1 s = 0
 ·have hn:=er1_none h1
  have hLL:LL s = (toksN s).1:=by unfold LL;rw [hn]
  have he2:er2 s = 0:=by unfold er2;rw [hn];rfl
  have hts:toksN s = (LL s,none):=by rw [hLL,← hn]
  have hsm:∀ t ∈ LL s,t.vl.size ≤ 16777216:=fun t ht=>(toks_small hts t.it (List.mem_map_of_mem ht)).2
  have hsq:SeqT false (LL s):=by rw [hLL];exact toksN_seq s hs
  have hlen:(LL s).length ≤ 1048576:=by rw [hLL];exact toksN_len s (by omega)
  unfold TokU at cT
  rw [h1,he2] at cT
  have hG0:=Go1.start blankB (LL s) hsq
  have HE:Hid (∀ er p w',takeL blankB (LL s) ⟨[],[]⟩ = .error (er,p) → Below w.heap.size w w' → ParseU s w (.returned (.tuple #[.slice none 0 0,.int .i64 (er:Int),.int .i64 (p:Int)])) w'):=Hid.mkT fun er p w' hz hb=>by
   unfold ParseU parseZ
   rw [if_neg (by rw [h1];decide),hz]
   exact ⟨none,0,rfl,hb,⟨fun i e hi=>(by cases hi)⟩⟩
  have HF:Hid (∀ t w',takeL blankB (LL s) ⟨[],[]⟩ = .ok t → Below w.heap.size w w' → endE t ≠ 0 → ParseU s w (.returned (.tuple #[.slice none 0 0,.int .i64 (endE t:Int),.int .i64 (s.size:Int)])) w'):=Hid.mkT fun t w' hz hb hne=>by
   unfold ParseU parseZ
   rw [if_neg (by rw [h1];decide),hz]
   dsimp only
   rw [if_neg hne]
   exact ⟨none,0,rfl,hb,⟨fun i e hi=>(by cases hi)⟩⟩
  have HG:Hid (∀ t p c w',takeL blankB (LL s) ⟨[],[]⟩ = .ok t → Below w.heap.size w w' → endE t = 0 → ERow w' p w'.heap.size t.es → ParseU s w (.returned (.tuple #[.slice p t.es.length c,.int .i64 0,.int .i64 0])) w'):=Hid.mkT fun t p c w' hz hb h0 hr=>by
   unfold ParseU parseZ
   rw [if_neg (by rw [h1];decide),hz]
   dsimp only
   rw [if_pos h0]
   exact ⟨p,c,rfl,hb,hr⟩
  clear hts hsq hLL hn he2 h1
  generalize LL s = L at *
  generalize ParseU s w = Post at *
  go_enter Tryz.func11,Tryz.ntmps11
  go_wp2_with (go_at_call 29;refine cT.mono ?_;rintro _ w1 ⟨p1,c1,rfl,hb1,hI1⟩;clear cT;have HI:=Hid.mkT hI1;have HB:=Hid.mkT hb1;clear hI1 hb1)
  go_loopw [8,9,10,11,12,13] (fun vE vO n p11 i12 l13 wr=>∃ (j:Nat) (t:PSt) (pe po:Option Addr) (ce co:Nat),j ≤ L.length ∧ n = .int .i64 j ∧ vE = .slice pe t.es.length ce ∧ vO = .slice po t.op.length co ∧ Hid (Go1 blankB L j t ∧ RQ wr w1.heap.size vO vE t ∧ Below w1.heap.size w1 wr)) (fun _ _ n _ _ _ _=>L.length - (RowKit.intOf n).toNat)
  case atStart=>exact ⟨0,⟨[],[]⟩,none,none,0,0,Nat.zero_le _,by go_num,rfl,rfl,Hid.mkT ⟨hG0,RQ.fresh (Nat.le_refl _),Below.refl _ _⟩⟩
  case round =>
   obtain ⟨j,t,pe,po,ce,co,hj,rfl,rfl,rfl,hH⟩:=hrel
   by_cases hlt:j < L.length
   ·
    obtain ⟨tk,ht⟩:∃ x,L[j]? = some x:=⟨L[j],List.getElem?_eq_getElem hlt⟩
    have hvl:=hsm tk (List.mem_of_getElem? ht)
    have hG:=hH.out.1
    have hop:=hG.op ht
    have hQ:=hH.out.2.1
    have hBr:=hH.out.2.2
    obtain ⟨g,o,rfl,hg,c0,c1,c2,c3⟩:=HI.out.c j tk.it (by rw [List.getElem?_map,ht];rfl)
    have r0:=(hBr.cell (p:=⟨g,_,none⟩) hg).trans c0
    have r1:=(hBr.cell (p:=⟨g,_,none⟩) hg).trans c1
    have r2:=(hBr.cell (p:=⟨g,_,none⟩) hg).trans c2
    have r3:=(hBr.cell (p:=⟨g,_,none⟩) hg).trans c3
    clear c0 c1 c2 c3 hH
    obtain ⟨k,nm,vl,p⟩:=tk
    dsimp only [Tok.it] at r0 r1 r2 r3
    dsimp only at hvl hop
    have hb2:=bel1 wr (.cells #[.int .i64 (k:Int),.string nm,.string vl,.int .i64 (p:Int)] 67)
    have hBw:Below w.heap.size w (wr.alloc (.cells #[.int .i64 (k:Int),.string nm,.string vl,.int .i64 (p:Int)] 67)):=(HB.out.trans (hBr.mono HB.out.size)).trans (hb2.mono (Nat.le_trans HB.out.size hBr.size))
    have hB1w:Below w1.heap.size w1 (wr.alloc (.cells #[.int .i64 (k:Int),.string nm,.string vl,.int .i64 (p:Int)] 67)):=hBr.trans (hb2.mono hBr.size)
    have hQ2:RQ (wr.alloc (.cells #[.int .i64 (k:Int),.string nm,.string vl,.int .i64 (p:Int)] 67)) w1.heap.size (.slice po t.op.length co) (.slice pe t.es.length ce) t:=hQ.keep hb2
    have hT:(wr.alloc (.cells #[.int .i64 (k:Int),.string nm,.string vl,.int .i64 (p:Int)] 67)).heap[wr.heap.size]? = some (.cells #[.int .i64 (k:Int),.string nm,.string vl,.int .i64 (p:Int)] 67):=theap_new wr _
    have t0:(wr.alloc (.cells #[.int .i64 (k:Int),.string nm,.string vl,.int .i64 (p:Int)] 67)).cell? ⟨wr.heap.size,0,none⟩ = some (.int .i64 (k:Int)):=by simp only [World.cell?,hT];rfl
    have t1:(wr.alloc (.cells #[.int .i64 (k:Int),.string nm,.string vl,.int .i64 (p:Int)] 67)).cell? ⟨wr.heap.size,1,none⟩ = some (.string nm):=by simp only [World.cell?,hT];rfl
    have t2:(wr.alloc (.cells #[.int .i64 (k:Int),.string nm,.string vl,.int .i64 (p:Int)] 67)).cell? ⟨wr.heap.size,2,none⟩ = some (.string vl):=by simp only [World.cell?,hT];rfl
    have t3:(wr.alloc (.cells #[.int .i64 (k:Int),.string nm,.string vl,.int .i64 (p:Int)] 67)).cell? ⟨wr.heap.size,3,none⟩ = some (.int .i64 (p:Int)):=by simp only [World.cell?,hT];rfl
    have hlti:(j:Int) < L.length:=by omega
    have HX:Hid (∀ er w',takeT blankB t ⟨k,nm,vl,p⟩ = .error er → Below w.heap.size w w' → Post (.returned (.tuple #[.slice none 0 0,.int .i64 (er:Int),.int .i64 (p:Int)])) w'):=Hid.mkT fun er w' hz hb=>HE.out er p w' (hG.bad ht hz) hb
    have HN:Hid (∀ s',takeT blankB t ⟨k,nm,vl,p⟩ = .ok s' → Go1 blankB L (j + 1) s'):=Hid.mkT fun s' hz=>hG.next ht hz hvl
    have HTX:Hid (∀ e ∈ t.es,e.tx.size ≤ j * 16777216):=Hid.mkT hG.tx
    have HBW:=Hid.mkT hBw
    have HB1:=Hid.mkT hB1w
    have HQ:=Hid.mkT hQ2
    have HQ0:=Hid.mkT hQ
    clear HE HF HG hG hBr hb2 hQ hQ2 hBw hB1w ht HI hG0 hT
    cases hi:t.op.getLast? with
    | none =>
     have h0:t.op = []:=List.getLast?_eq_none_iff.1 hi
     have z0:¬ (0:Int) < (t.op.length:Int):=by rw [h0];simp
     by_cases k0:k = 0
     ·have hz:=takeT_0 blankB t nm vl p k0
      by_cases c2:t.es = []
      ·have hzz:takeT blankB t ⟨k,nm,vl,p⟩ = .ok ⟨t.op ++ [t.es.length],t.es ++ [⟨(t.op.length:Int) + 1,nm,[],⟨#[]⟩,(p:Int)⟩]⟩:=by rw [hz,if_neg (fun h=>h.2 c2),if_neg (by rw [h0];decide),if_neg (by rw [c2];decide)]
       have y0:¬ (0:Int) < (t.es.length:Int):=by rw [c2];simp
       have y1:((t.op.length:Int) == 16) = false:=beq_eq_false_iff_ne.2 (by rw [h0];decide)
       have y2:((t.es.length:Int) == 20000) = false:=beq_eq_false_iff_ne.2 (by rw [c2];decide)
       obtain ⟨p2,c2',w2,p3,c3,w3,hrun2,hT2,hT2',hrun3,hQ3,hB3⟩:=rq_open HQ0.out nm p (.cells #[.int .i64 (k:Int),.string nm,.string vl,.int .i64 (p:Int)] 67) (takeT_ok hzz HQ0.out.ok)
       rw [World.size_alloc] at hrun2
       have u1:w2.cell? ⟨wr.heap.size,1,none⟩ = some (.string nm):=by simp only [World.cell?,hT2];rfl
       have u3:w2.cell? ⟨wr.heap.size,3,none⟩ = some (.int .i64 (p:Int)):=by simp only [World.cell?,hT2];rfl
       have HR:Hid (∃ s':PSt,t.es.length + 1 = s'.es.length ∧ t.op.length + 1 = s'.op.length ∧ Go1 blankB L (j + 1) s' ∧ RQ w3 w1.heap.size (.slice p2 (t.op.length + 1) c2') (.slice p3 (t.es.length + 1) c3) s' ∧ Below w1.heap.size w1 w3):=Hid.mkT ⟨_,by simp,by simp,HN.out _ hzz,hQ3,HB1.out.trans hB3⟩
       have ke0:((k:Int) == 0) = true:=beq_iff_eq.2 (by omega)
       clear hzz hQ3 hB3 hT2 hT2' hz c2 k0 hi h0 HX HN HQ HQ0 HB1 hop hvl HBW
       generalize t.op.length = N at *
       generalize t.es.length = M at *
       have F1:Hid (1 = 1):=Hid.mkT rfl
       go_wp2_with (at_builtin;first
        | (clear F1;refine (tApp (by rfl) _ _ _ _ (by rfl) _ _ (by rfl) (by rfl) (fun a b=>a = .slice p2 (N + 1) c2' ∧ b = w2) ⟨_,w2,hrun2,rfl,rfl⟩ ?_);rintro _ _ ⟨rfl,rfl⟩)
        | (refine (tApp (by rfl) _ _ _ _ (by rfl) _ _ (by rfl) (by rfl) (fun a b=>a = .slice p3 (M + 1) c3 ∧ b = w3) ⟨_,w3,hrun3,rfl,rfl⟩ ?_);rintro _ _ ⟨rfl,rfl⟩))
       obtain ⟨s',q1,q2,q3,q4,q5⟩:=HR.out
       go_roundw
       case rel=>exact ⟨j + 1,s',p3,p2,c3,c2',by omega,by go_num,by rw [← q1],by rw [← q2],Hid.mkT ⟨q3,q4,q5⟩⟩
       case measure=>simp [RowKit.intOf];omega
      ·have y0:(0:Int) < (t.es.length:Int):=by have:=List.length_pos_iff.2 c2;omega
       have HY:Hid (∀ w',Below w.heap.size w w' → Post (.returned (.tuple #[.slice none 0 0,.int .i64 53,.int .i64 (p:Int)])) w'):=Hid.mkT fun w' hb=>HX.out 53 w' (by rw [hz,if_pos ⟨h0,c2⟩]) hb
       have ke0:((k:Int) == 0) = true:=beq_iff_eq.2 (by omega)
       clear HX HN HQ HQ0 HB1 hop hvl hz c2 k0 hi h0
       go_wp2_with fail
       go_quiet (fail)
       go_wp2_with fail
       exact bodyPost_ret (v:=.tuple #[.slice none 0 0,.int .i64 53,.int .i64 (p:Int)]) (by simp [results,Tryz.results11,go_sem]) rfl (HY.out _ ⟨HBW.out.os,HBW.out.tape,HBW.out.output,HBW.out.size,HBW.out.block⟩)
     ·by_cases k4:k = 4
      ·have HY:Hid (∀ w',Below w.heap.size w w' → Post (.returned (.tuple #[.slice none 0 0,.int .i64 51,.int .i64 (p:Int)])) w'):=Hid.mkT fun w' hb=>HX.out 51 w' (takeT_4n blankB t nm vl p k4 hi) hb
       have kn0:((k:Int) == 0) = false:=beq_eq_false_iff_ne.2 (by omega)
       have kn1:((k:Int) == 1) = false:=beq_eq_false_iff_ne.2 (by omega)
       have kn3:((k:Int) == 3) = false:=beq_eq_false_iff_ne.2 (by omega)
       have ke4:((k:Int) == 4) = true:=beq_iff_eq.2 (by omega)
       clear HX HN HQ HQ0 HB1 hop hvl k0 k4 hi h0
       go_wp2_with fail
       go_quiet (fail)
       go_wp2_with fail
       go_quiet (fail)
       go_wp2_with fail
       exact bodyPost_ret (v:=.tuple #[.slice none 0 0,.int .i64 51,.int .i64 (p:Int)]) (by simp [results,Tryz.results11,go_sem]) rfl (HY.out _ ⟨HBW.out.os,HBW.out.tape,HBW.out.output,HBW.out.size,HBW.out.block⟩)
      ·by_cases k5:k = 5
       ·have cB:=rBlank vl (by omega) (wr.alloc (.cells #[.int .i64 (k:Int),.string nm,.string vl,.int .i64 (p:Int)] 67))
        have hz:=takeT_5n blankB t nm vl p k5 hi
        cases hb:blankB vl with
        | true =>
         rw [hb] at cB hz
         have hzz:=hz.trans (if_pos rfl)
         have HR:Hid (Go1 blankB L (j + 1) t ∧ RQ (wr.alloc (.cells #[.int .i64 (k:Int),.string nm,.string vl,.int .i64 (p:Int)] 67)) w1.heap.size (.slice po t.op.length co) (.slice pe t.es.length ce) t ∧ Below w1.heap.size w1 (wr.alloc (.cells #[.int .i64 (k:Int),.string nm,.string vl,.int .i64 (p:Int)] 67))):=Hid.mkT ⟨HN.out _ hzz,HQ.out,HB1.out⟩
         have kn0:((k:Int) == 0) = false:=beq_eq_false_iff_ne.2 (by omega)
         have kn1:((k:Int) == 1) = false:=beq_eq_false_iff_ne.2 (by omega)
         have kn3:((k:Int) == 3) = false:=beq_eq_false_iff_ne.2 (by omega)
         have kn4:((k:Int) == 4) = false:=beq_eq_false_iff_ne.2 (by omega)
         have ke5:((k:Int) == 5) = true:=beq_iff_eq.2 (by omega)
         clear hz hzz HX HN HQ HQ0 HB1 hop hvl HBW k0 k4 k5 hi h0 hb
         go_wp2_with (go_at_call 31;refine cB.mono ?_;rintro _ w' ⟨rfl,hw'⟩;replace hw':=hw'.symm;subst hw')
         go_roundw
         case rel=>exact ⟨j + 1,t,pe,po,ce,co,by omega,by go_num,rfl,rfl,HR⟩
         case measure=>simp [RowKit.intOf];omega
        | false =>
         rw [hb] at cB hz
         have HY:Hid (∀ w',Below w.heap.size w w' → Post (.returned (.tuple #[.slice none 0 0,.int .i64 53,.int .i64 (p:Int)])) w'):=Hid.mkT fun w' hb=>HX.out 53 w' (hz.trans (if_neg (by decide))) hb
         have kn0:((k:Int) == 0) = false:=beq_eq_false_iff_ne.2 (by omega)
         have kn1:((k:Int) == 1) = false:=beq_eq_false_iff_ne.2 (by omega)
         have kn3:((k:Int) == 3) = false:=beq_eq_false_iff_ne.2 (by omega)
         have kn4:((k:Int) == 4) = false:=beq_eq_false_iff_ne.2 (by omega)
         have ke5:((k:Int) == 5) = true:=beq_iff_eq.2 (by omega)
         clear HX HN HQ HQ0 HB1 hop hvl hz k0 k4 k5 hi h0 hb
         go_wp2_with (go_at_call 31;refine cB.mono ?_;rintro _ w' ⟨rfl,hw'⟩;replace hw':=hw'.symm;subst hw')
         go_quiet (fail)
         go_wp2_with fail
         exact bodyPost_ret (v:=.tuple #[.slice none 0 0,.int .i64 53,.int .i64 (p:Int)]) (by simp [results,Tryz.results11,go_sem]) rfl (HY.out _ ⟨HBW.out.os,HBW.out.tape,HBW.out.output,HBW.out.size,HBW.out.block⟩)
       ·by_cases k1:k = 1
        ·exact absurd h0 (hop.1 (.inl k1))
        ·by_cases k3:k = 3
         ·exact absurd h0 (hop.1 (.inr k3))
         ·have hzz:=takeT_x blankB t nm vl p k0 k1 k3 k4 k5
          have HR:Hid (Go1 blankB L (j + 1) t ∧ RQ (wr.alloc (.cells #[.int .i64 (k:Int),.string nm,.string vl,.int .i64 (p:Int)] 67)) w1.heap.size (.slice po t.op.length co) (.slice pe t.es.length ce) t ∧ Below w1.heap.size w1 (wr.alloc (.cells #[.int .i64 (k:Int),.string nm,.string vl,.int .i64 (p:Int)] 67))):=Hid.mkT ⟨HN.out _ hzz,HQ.out,HB1.out⟩
          have kn0:((k:Int) == 0) = false:=beq_eq_false_iff_ne.2 (by omega)
          have kn1:((k:Int) == 1) = false:=beq_eq_false_iff_ne.2 (by omega)
          have kn3:((k:Int) == 3) = false:=beq_eq_false_iff_ne.2 (by omega)
          have kn4:((k:Int) == 4) = false:=beq_eq_false_iff_ne.2 (by omega)
          have kn5:((k:Int) == 5) = false:=beq_eq_false_iff_ne.2 (by omega)
          clear hzz HX HN HQ HQ0 HB1 hop hvl HBW k0 k1 k3 k4 k5 hi h0
          go_wp2_with fail
          go_roundw
          case rel=>exact ⟨j + 1,t,pe,po,ce,co,by omega,by go_num,rfl,rfl,HR⟩
          case measure=>simp [RowKit.intOf];omega
    | some i =>
     obtain ⟨e,he0,n,f,ex,x,gO,cO,gE,cE,hL⟩:=HQ.out.last hi
     obtain ⟨a0,a1,a2,a2f,a3,a3f,-,-,-⟩:=hL.cells hi
     have HO:=hL.hO
     injection HO with HO1 HO2 HO3
     subst HO1 HO3
     have HE1:=hL.hE
     injection HE1 with HE1 _ HE3
     subst HE1 HE3
     have hil:=hL.il
     have z0:(0:Int) < (t.op.length:Int):=by omega
     have zi:(i:Int) < (t.es.length:Int):=by omega
     have hol:=HQ.out.ok.ol
     have hel:=HQ.out.ok.el
     have zn:(n:Int) < (t.op.length:Int):=by omega
     have zw:IntKind.i64.wrap ((t.op.length:Int) - 1) = (n:Int):=by rw [IntKind.wrap_i64];omega
     have zw2:(t.op.length:Int) - 1 = (n:Int):=by omega
     by_cases k0:k = 0
     ·have hz:=takeT_0 blankB t nm vl p k0
      have c1:¬ (t.op = [] ∧ t.es ≠ []):=fun h=>by rw [h.1] at hi;cases hi
      by_cases c16:t.op.length = 16
      ·have HY:Hid (∀ w',Below w.heap.size w w' → Post (.returned (.tuple #[.slice none 0 0,.int .i64 50,.int .i64 (p:Int)])) w'):=Hid.mkT fun w' hb=>HX.out 50 w' (by rw [hz,if_neg c1,if_pos c16]) hb
       have y1:((t.op.length:Int) == 16) = true:=beq_iff_eq.2 (by omega)
       generalize t.op.length = N at *
       have ke0:((k:Int) == 0) = true:=beq_iff_eq.2 (by omega)
       clear HX hz k0 hi c1 hL he0 a1 a2 a2f a3 a3f hil HO2 c16 hol zw2
       go_wp2_with fail
       go_quiet (fail)
       go_wp2_with fail
       exact bodyPost_ret (v:=.tuple #[.slice none 0 0,.int .i64 50,.int .i64 (p:Int)]) (by simp [results,Tryz.results11,go_sem]) rfl (HY.out _ ⟨HBW.out.os,HBW.out.tape,HBW.out.output,HBW.out.size,HBW.out.block⟩)
      ·by_cases c20:t.es.length = 20000
       ·have HY:Hid (∀ w',Below w.heap.size w w' → Post (.returned (.tuple #[.slice none 0 0,.int .i64 54,.int .i64 (p:Int)])) w'):=Hid.mkT fun w' hb=>HX.out 54 w' (by rw [hz,if_neg c1,if_neg c16,if_pos c20]) hb
        have y1:((t.op.length:Int) == 16) = false:=beq_eq_false_iff_ne.2 (by omega)
        have y2:((t.es.length:Int) == 20000) = true:=beq_iff_eq.2 (by omega)
        have ke0:((k:Int) == 0) = true:=beq_iff_eq.2 (by omega)
        clear HX HN HQ HQ0 HB1 hop hvl hz k0 hi c1 hL he0 a1 a2 a2f a3 a3f hil HO2 c16 c20 zw2
        go_wp2_with fail
        go_quiet (fail)
        go_wp2_with fail
        exact bodyPost_ret (v:=.tuple #[.slice none 0 0,.int .i64 54,.int .i64 (p:Int)]) (by simp [results,Tryz.results11,go_sem]) rfl (HY.out _ ⟨HBW.out.os,HBW.out.tape,HBW.out.output,HBW.out.size,HBW.out.block⟩)
       ·have hzz:takeT blankB t ⟨k,nm,vl,p⟩ = .ok ⟨t.op ++ [t.es.length],t.es ++ [⟨(t.op.length:Int) + 1,nm,[],⟨#[]⟩,(p:Int)⟩]⟩:=by rw [hz,if_neg c1,if_neg c16,if_neg c20]
        have y1:((t.op.length:Int) == 16) = false:=beq_eq_false_iff_ne.2 (by omega)
        have y2:((t.es.length:Int) == 20000) = false:=beq_eq_false_iff_ne.2 (by omega)
        obtain ⟨p2,c2',w2,p3,c3,w3,hrun2,hT2,hT2',hrun3,hQ3,hB3⟩:=rq_open HQ0.out nm p (.cells #[.int .i64 (k:Int),.string nm,.string vl,.int .i64 (p:Int)] 67) (takeT_ok hzz HQ0.out.ok)
        rw [World.size_alloc] at hrun2
        have u1:w2.cell? ⟨wr.heap.size,1,none⟩ = some (.string nm):=by simp only [World.cell?,hT2];rfl
        have u3:w2.cell? ⟨wr.heap.size,3,none⟩ = some (.int .i64 (p:Int)):=by simp only [World.cell?,hT2];rfl
        have HR:Hid (∃ s':PSt,t.es.length + 1 = s'.es.length ∧ t.op.length + 1 = s'.op.length ∧ Go1 blankB L (j + 1) s' ∧ RQ w3 w1.heap.size (.slice p2 (t.op.length + 1) c2') (.slice p3 (t.es.length + 1) c3) s' ∧ Below w1.heap.size w1 w3):=Hid.mkT ⟨_,by simp,by simp,HN.out _ hzz,hQ3,HB1.out.trans hB3⟩
        have ke0:((k:Int) == 0) = true:=beq_iff_eq.2 (by omega)
        clear hzz hQ3 hB3 hT2 hT2' hz k0 hi c1 hL he0 a1 a2 a2f a3 a3f hil HO2 c16 c20 zw2 HX HN HQ HQ0 HB1 hop hvl HBW
        generalize t.op.length = N at *
        generalize t.es.length = M at *
        have F1:Hid (1 = 1):=Hid.mkT rfl
        go_wp2_with (at_builtin;first
         | (clear F1;refine (tApp (by rfl) _ _ _ _ (by rfl) _ _ (by rfl) (by rfl) (fun a b=>a = .slice p2 (N + 1) c2' ∧ b = w2) ⟨_,w2,hrun2,rfl,rfl⟩ ?_);rintro _ _ ⟨rfl,rfl⟩)
         | (refine (tApp (by rfl) _ _ _ _ (by rfl) _ _ (by rfl) (by rfl) (fun a b=>a = .slice p3 (M + 1) c3 ∧ b = w3) ⟨_,w3,hrun3,rfl,rfl⟩ ?_);rintro _ _ ⟨rfl,rfl⟩))
        obtain ⟨s',q1,q2,q3,q4,q5⟩:=HR.out
        go_roundw
        case rel=>exact ⟨j + 1,s',p3,p2,c3,c2',by omega,by go_num,by rw [← q1],by rw [← q2],Hid.mkT ⟨q3,q4,q5⟩⟩
        case measure=>simp [RowKit.intOf];omega
     ·by_cases k1:k = 1
      ·have hz:=takeT_1 blankB t nm vl p k1 hi he0
       obtain ⟨pa,ca,hpa,hA⟩:=hL.arow
       have hal:=HQ.out.ok.al e (List.mem_of_getElem? he0)
       have cH:=refHas_any e.ats pa ca nm (wr.alloc (.cells #[.int .i64 (k:Int),.string nm,.string vl,.int .i64 (p:Int)] 67)) hA (by omega)
       rw [hpa] at a2
       by_cases hh:hasA e.ats nm = true
       ·rw [hh] at cH
        have HY:Hid (∀ w',Below w.heap.size w w' → Post (.returned (.tuple #[.slice none 0 0,.int .i64 52,.int .i64 (p:Int)])) w'):=Hid.mkT fun w' hb=>HX.out 52 w' (hz.trans (if_pos hh)) hb
        have kn0:((k:Int) == 0) = false:=beq_eq_false_iff_ne.2 (by omega)
        have ke1:((k:Int) == 1) = true:=beq_iff_eq.2 (by omega)
        clear HX HN HQ HQ0 HB1 hop hvl HTX hz k0 k1 hi hL he0 a1 a2f a3 a3f hil HO2 zw2 hpa hA hh
        go_wp2_with (go_at_call 30;refine cH.mono ?_;rintro _ _ ⟨rfl,m,rfl⟩)
        go_quiet (fail)
        go_wp2_with fail
        exact bodyPost_ret (v:=.tuple #[.slice none 0 0,.int .i64 52,.int .i64 (p:Int)]) (by simp [results,Tryz.results11,go_sem]) rfl (HY.out _ ⟨HBW.out.os,HBW.out.tape,HBW.out.output,HBW.out.size,HBW.out.block⟩)
       ·have hh':=hh
        rw [Bool.not_eq_true] at hh'
        rw [hh'] at cH
        by_cases h24:e.ats.length = 24
        ·have z4:((e.ats.length:Int) == 24) = true:=beq_iff_eq.2 (by omega)
         generalize e.ats.length = NA at *
         have HY:Hid (∀ w',Below w.heap.size w w' → Post (.returned (.tuple #[.slice none 0 0,.int .i64 54,.int .i64 (p:Int)])) w'):=Hid.mkT fun w' hb=>HX.out 54 w' (by rw [hz,if_neg hh,if_pos h24]) hb
         have kn0:((k:Int) == 0) = false:=beq_eq_false_iff_ne.2 (by omega)
         have ke1:((k:Int) == 1) = true:=beq_iff_eq.2 (by omega)
         clear HX HN HQ HQ0 HB1 hop hvl HTX hz k0 k1 hi hL he0 a1 a2f a3 a3f hil HO2 zw2 hpa hA hh hh' h24 hal
         go_wp2_with (go_at_call 30;refine cH.mono ?_;rintro _ _ ⟨rfl,m,rfl⟩)
         go_quiet (fail)
         go_wp2_with fail
         exact bodyPost_ret (v:=.tuple #[.slice none 0 0,.int .i64 54,.int .i64 (p:Int)]) (by simp [results,Tryz.results11,go_sem]) rfl (HY.out _ ⟨HBW.out.os,HBW.out.tape,HBW.out.output,HBW.out.size,HBW.out.block⟩)
        ·have z4:((e.ats.length:Int) == 24) = false:=beq_eq_false_iff_ne.2 (by omega)
         have hzz:takeT blankB t ⟨k,nm,vl,p⟩ = .ok ⟨t.op,t.es.set i { e with ats:=e.ats ++ [⟨nm,vl,(p:Int)⟩] }⟩:=by rw [hz,if_neg hh,if_neg h24]
         have F:=fun m=>rq_attr (HQ.out.drewN m) (hL.drewN m) hi he0 nm vl p (takeT_ok hzz HQ.out.ok)
         have HBd:Hid (∀ m w',Below w1.heap.size ((wr.alloc (.cells #[.int .i64 (k:Int),.string nm,.string vl,.int .i64 (p:Int)] 67)).drewN m) w' → Below w1.heap.size w1 w'):=Hid.mkT fun m w' hb=>HB1.out.trans ⟨hb.os,hb.tape,hb.output,hb.size,hb.block⟩
         have HGo:=Hid.mkT (HN.out _ hzz)
         have HLn:Hid (∃ s':PSt,s' = ⟨t.op,t.es.set i { e with ats:=e.ats ++ [⟨nm,vl,(p:Int)⟩] }⟩ ∧ t.es.length = s'.es.length ∧ t.op.length = s'.op.length):=Hid.mkT ⟨_,rfl,by simp,rfl⟩
         have kn0:((k:Int) == 0) = false:=beq_eq_false_iff_ne.2 (by omega)
         have ke1:((k:Int) == 1) = true:=beq_iff_eq.2 (by omega)
         clear hz hzz HX HN HQ HQ0 HB1 hop hvl HTX HBW k0 k1 hi hL he0 a1 a2f a3 a3f hil HO2 zw2 hA hh hh' h24 hal
         have HP:=Hid.mkT hpa
         clear hpa
         generalize hSx:(⟨t.op,t.es.set i { e with ats:=e.ats ++ [⟨nm,vl,(p:Int)⟩] }⟩:PSt) = Sx at F HGo HLn
         go_wp2_with (first
          | (go_at_call 30;refine cH.mono ?_;rintro _ _ ⟨rfl,m,rfl⟩;obtain ⟨pa',ca',p3,c3,w3,hp',hrun,x2,g2,hR,hBl⟩:=F m;rw [HP.out] at hp';injection hp' with hp1 hp2 hp3;subst hp1 hp3;rw [show ((wr.alloc (.cells #[.int .i64 (k:Int),.string nm,.string vl,.int .i64 (p:Int)] 67)).drewN m).heap.size = wr.heap.size + 1 from World.size_alloc _ _] at hrun;have HRR:=Hid.mkT (And.intro hR hBl);clear hR hBl F cH hp2 HP)
          | (at_builtin;refine (tApp (by rfl) _ _ _ _ (by rfl) _ _ (by rfl) (by rfl) (fun a b=>a = .slice p3 (e.ats.length + 1) c3 ∧ b = w3) ⟨_,w3,hrun,rfl,rfl⟩ ?_);rintro _ _ ⟨rfl,rfl⟩))
         obtain ⟨s',q0,q1,q2⟩:=HLn.out
         subst q0
         go_roundw
         case rel=>exact ⟨j + 1,s',_,_,ce,co,by omega,by go_num,by rw [← q1],by rw [← q2],Hid.mkT ⟨HGo.out,HRR.out.1,HBd.out m _ HRR.out.2⟩⟩
         case measure=>simp [RowKit.intOf];omega
      ·by_cases k3:k = 3
       ·have hzz:=takeT_3 blankB t nm vl p k3
        have HR:Hid (∀ m,Go1 blankB L (j + 1) ⟨t.op.dropLast,t.es⟩ ∧ RQ ((wr.alloc (.cells #[.int .i64 (k:Int),.string nm,.string vl,.int .i64 (p:Int)] 67)).drewN m) w1.heap.size (.slice (some ⟨gO,0,none⟩) n co) (.slice (some ⟨gE,0,none⟩) t.es.length ce) ⟨t.op.dropLast,t.es⟩ ∧ Below w1.heap.size w1 ((wr.alloc (.cells #[.int .i64 (k:Int),.string nm,.string vl,.int .i64 (p:Int)] 67)).drewN m)):=Hid.mkT fun m=>⟨HN.out _ hzz,(rq_pop HQ.out hL hi).drewN m,⟨HB1.out.os,HB1.out.tape,HB1.out.output,HB1.out.size,HB1.out.block⟩⟩
        have HD:Hid (n = t.op.dropLast.length):=Hid.mkT (by rw [List.length_dropLast];omega)
        have zc:(n:Int) ≤ co:=by have:=hL.hc;omega
        have zc2:n ≤ co:=by omega
        have kn0:((k:Int) == 0) = false:=beq_eq_false_iff_ne.2 (by omega)
        have kn1:((k:Int) == 1) = false:=beq_eq_false_iff_ne.2 (by omega)
        have ke3:((k:Int) == 3) = true:=beq_iff_eq.2 (by omega)
        clear hzz HX HN HQ HQ0 HB1 hop hvl HTX HBW k0 k1 k3 hi hL he0 a1 a2 a2f a3 a3f hil HO2 zw2
        go_wp2_with fail
        go_roundw
        case rel=>exact ⟨j + 1,⟨t.op.dropLast,t.es⟩,_,_,ce,co,by omega,by go_num,rfl,by rw [← HD.out],HR.out 0⟩
        case measure=>simp [RowKit.intOf];omega
       ·by_cases k4:k = 4
        ·have hz:=takeT_4 blankB t nm vl p k4 hi he0
         by_cases hne:e.nm = nm
         ·have hzz:=hz.trans (if_pos hne)
          have HR:Hid (∀ m,Go1 blankB L (j + 1) ⟨t.op.dropLast,t.es⟩ ∧ RQ ((wr.alloc (.cells #[.int .i64 (k:Int),.string nm,.string vl,.int .i64 (p:Int)] 67)).drewN m) w1.heap.size (.slice (some ⟨gO,0,none⟩) n co) (.slice (some ⟨gE,0,none⟩) t.es.length ce) ⟨t.op.dropLast,t.es⟩ ∧ Below w1.heap.size w1 ((wr.alloc (.cells #[.int .i64 (k:Int),.string nm,.string vl,.int .i64 (p:Int)] 67)).drewN m)):=Hid.mkT fun m=>⟨HN.out _ hzz,(rq_pop HQ.out hL hi).drewN m,⟨HB1.out.os,HB1.out.tape,HB1.out.output,HB1.out.size,HB1.out.block⟩⟩
          have HD:Hid (n = t.op.dropLast.length):=Hid.mkT (by rw [List.length_dropLast];omega)
          have zc:(n:Int) ≤ co:=by have:=hL.hc;omega
          have zc2:n ≤ co:=by omega
          have kn0:((k:Int) == 0) = false:=beq_eq_false_iff_ne.2 (by omega)
          have kn1:((k:Int) == 1) = false:=beq_eq_false_iff_ne.2 (by omega)
          have kn3:((k:Int) == 3) = false:=beq_eq_false_iff_ne.2 (by omega)
          have ke4:((k:Int) == 4) = true:=beq_iff_eq.2 (by omega)
          subst hne
          clear hz hzz HX HN HQ HQ0 HB1 hop hvl HTX HBW k0 k1 k3 k4 hi hL he0 a2 a2f a3 a3f hil HO2 zw2
          go_wp2_with fail
          go_quiet (fail)
          go_wp2_with fail
          go_roundw
          case rel=>exact ⟨j + 1,⟨t.op.dropLast,t.es⟩,_,_,ce,co,by omega,by go_num,rfl,by rw [← HD.out],HR.out nq⟩
          case measure=>simp [RowKit.intOf];omega
         ·have zb:=beq_ba hne
          have zb2:(e.nm.toList != nm.toList) = true:=by rw [bne,zb];rfl
          have HY:Hid (∀ w',Below w.heap.size w w' → Post (.returned (.tuple #[.slice none 0 0,.int .i64 51,.int .i64 (p:Int)])) w'):=Hid.mkT fun w' hb=>HX.out 51 w' (hz.trans (if_neg hne)) hb
          have kn0:((k:Int) == 0) = false:=beq_eq_false_iff_ne.2 (by omega)
          have kn1:((k:Int) == 1) = false:=beq_eq_false_iff_ne.2 (by omega)
          have kn3:((k:Int) == 3) = false:=beq_eq_false_iff_ne.2 (by omega)
          have ke4:((k:Int) == 4) = true:=beq_iff_eq.2 (by omega)
          clear HX HN HQ HQ0 HB1 hop hvl HTX hz k0 k1 k3 k4 hi hL he0 a2 a2f a3 a3f hil HO2 zw2 hne
          go_wp2_with fail
          go_quiet (fail)
          go_wp2_with fail
          go_quiet (fail)
          go_wp2_with fail
          exact bodyPost_ret (v:=.tuple #[.slice none 0 0,.int .i64 51,.int .i64 (p:Int)]) (by simp [results,Tryz.results11,go_sem]) rfl (HY.out _ ⟨HBW.out.os,HBW.out.tape,HBW.out.output,HBW.out.size,HBW.out.block⟩)
        ·by_cases k5:k = 5
         ·have hzz:=takeT_5 blankB t nm vl p k5 hi he0
          have F:=rq_text (HQ.out.drewN 1) (hL.drewN 1) hi vl (takeT_ok hzz HQ.out.ok)
          have zs:e.tx.size + vl.size ≤ 9223372036854775807:=by have:=HTX.out e (List.mem_of_getElem? he0);omega
          have zs2:¬ 9223372036854775807 < e.tx.size + vl.size:=by omega
          have HR:Hid (∃ s':PSt,t.es.length = s'.es.length ∧ t.op.length = s'.op.length ∧ Go1 blankB L (j + 1) s' ∧ RQ (((wr.alloc (.cells #[.int .i64 (k:Int),.string nm,.string vl,.int .i64 (p:Int)] 67)).drewN 1).setCell ⟨gE,i * 5 + 3,none⟩ (.string (e.tx ++ vl))) w1.heap.size (.slice (some ⟨gO,0,none⟩) t.op.length co) (.slice (some ⟨gE,0,none⟩) t.es.length ce) s' ∧ Below w1.heap.size w1 (((wr.alloc (.cells #[.int .i64 (k:Int),.string nm,.string vl,.int .i64 (p:Int)] 67)).drewN 1).setCell ⟨gE,i * 5 + 3,none⟩ (.string (e.tx ++ vl)))):=Hid.mkT ⟨⟨t.op,t.es.set i { e with tx:=e.tx ++ vl }⟩,by simp,rfl,HN.out _ hzz,F.1,(show Below w1.heap.size w1 ((wr.alloc (.cells #[.int .i64 (k:Int),.string nm,.string vl,.int .i64 (p:Int)] 67)).drewN 1) from ⟨HB1.out.os,HB1.out.tape,HB1.out.output,HB1.out.size,HB1.out.block⟩).trans F.2⟩
          have kn0:((k:Int) == 0) = false:=beq_eq_false_iff_ne.2 (by omega)
          have kn1:((k:Int) == 1) = false:=beq_eq_false_iff_ne.2 (by omega)
          have kn3:((k:Int) == 3) = false:=beq_eq_false_iff_ne.2 (by omega)
          have kn4:((k:Int) == 4) = false:=beq_eq_false_iff_ne.2 (by omega)
          have ke5:((k:Int) == 5) = true:=beq_iff_eq.2 (by omega)
          clear hzz F HX HN HQ HQ0 HB1 hop hvl HTX HBW k0 k1 k3 k4 k5 hi hL he0 a1 a2 a2f hil HO2 zw2
          go_wp2_with fail
          go_region_law (fail)
          all_goals
           go_wp2_with fail
           obtain ⟨s',q1,q2,q3,q4,q5⟩:=HR.out
           go_roundw
           case rel=>exact ⟨j + 1,s',_,_,ce,co,by omega,by go_num,by rw [← q1],by rw [← q2],Hid.mkT ⟨q3,q4,q5⟩⟩
           case measure=>simp [RowKit.intOf];omega
         ·have hzz:=takeT_x blankB t nm vl p k0 k1 k3 k4 k5
          have HR:Hid (Go1 blankB L (j + 1) t ∧ RQ (wr.alloc (.cells #[.int .i64 (k:Int),.string nm,.string vl,.int .i64 (p:Int)] 67)) w1.heap.size (.slice (some ⟨gO,0,none⟩) t.op.length co) (.slice (some ⟨gE,0,none⟩) t.es.length ce) t ∧ Below w1.heap.size w1 (wr.alloc (.cells #[.int .i64 (k:Int),.string nm,.string vl,.int .i64 (p:Int)] 67))):=Hid.mkT ⟨HN.out _ hzz,HQ.out,HB1.out⟩
          have kn0:((k:Int) == 0) = false:=beq_eq_false_iff_ne.2 (by omega)
          have kn1:((k:Int) == 1) = false:=beq_eq_false_iff_ne.2 (by omega)
          have kn3:((k:Int) == 3) = false:=beq_eq_false_iff_ne.2 (by omega)
          have kn4:((k:Int) == 4) = false:=beq_eq_false_iff_ne.2 (by omega)
          have kn5:((k:Int) == 5) = false:=beq_eq_false_iff_ne.2 (by omega)
          clear hzz HX HN HQ HQ0 HB1 hop hvl HBW k0 k1 k3 k4 k5 hi hL he0 a1 a2 a2f a3 a3f hil HO2 zw2
          go_wp2_with fail
          go_roundw
          case rel=>exact ⟨j + 1,t,_,_,ce,co,by omega,by go_num,rfl,rfl,HR⟩
          case measure=>simp [RowKit.intOf];omega
   ·obtain rfl:j = L.length:=by omega
    have hz:=hH.out.1.fin
    have hBf:Below w.heap.size w wr:=HB.out.trans (hH.out.2.2.mono HB.out.size)
    have hlti:¬ (L.length:Int) < L.length:=by omega
    by_cases c1:t.op ≠ []
    ·have he:endE t = 51:=by unfold endE;rw [if_pos c1]
     have HX:=Hid.mkT (HF.out t wr hz hBf (by rw [he];decide))
     rw [he] at HX
     have z0:(0:Int) < (t.op.length:Int):=by have:=List.length_pos_iff.2 c1;omega
     clear hz hBf HE HF HG hH HI HB he c1
     go_wp2_with fail
     exact bodyPost_ret (v:=.tuple #[.slice none 0 0,.int .i64 51,.int .i64 (s.size:Int)]) (by simp [results,Tryz.results11,go_sem]) rfl HX.out
    ·have h0:t.op = []:=Classical.not_not.1 c1
     by_cases c2:t.es = []
     ·have he:endE t = 53:=by unfold endE;rw [if_neg c1,if_pos c2]
      have HX:=Hid.mkT (HF.out t wr hz hBf (by rw [he];decide))
      rw [he] at HX
      have z0:¬ (0:Int) < (t.op.length:Int):=by rw [h0];simp
      have z1:(t.es.length:Int) = 0:=by rw [c2];rfl
      have z2:((t.es.length:Int) == 0) = true:=beq_iff_eq.2 z1
      clear hz hBf HE HF HG hH HI HB he c1 h0 c2
      go_wp2_with fail
      exact bodyPost_ret (v:=.tuple #[.slice none 0 0,.int .i64 53,.int .i64 (s.size:Int)]) (by simp [results,Tryz.results11,go_sem]) rfl HX.out
     ·have he:endE t = 0:=by unfold endE;rw [if_neg c1,if_neg c2]
      have HX:=Hid.mkT (HG.out t pe ce wr hz hBf he (RQ.erow hH.out.2.1))
      have z0:¬ (0:Int) < (t.op.length:Int):=by rw [h0];simp
      have z1:¬ (t.es.length:Int) = 0:=by have:=List.length_pos_iff.2 c2;omega
      have z2:((t.es.length:Int) == 0) = false:=beq_eq_false_iff_ne.2 z1
      clear hz hBf HE HF HG hH HI HB he c1 h0 c2
      go_wp2_with fail
      exact bodyPost_ret (v:=.tuple #[.slice pe t.es.length ce,.int .i64 0,.int .i64 0]) (by simp [results,Tryz.results11,go_sem]) rfl HX.out
 ·unfold ParseU parseZ
  rw [if_pos h1]
  unfold TokU at cT
  have z1:¬ (er1 s:Int) = 0:=by omega
  have z2:((er1 s:Int) == 0) = false:=beq_eq_false_iff_ne.2 z1
  have z3:((er1 s:Int) != 0) = true:=by rw [bne,z2];rfl
  clear h1
  go_enter Tryz.func11,Tryz.ntmps11
  go_wp2_with (go_at_call 29;refine cT.mono ?_;rintro _ w1 ⟨p1,c1,rfl,hb1,-⟩)
  exact bodyPost_ret (v:=.tuple #[.slice none 0 0,.int .i64 (er1 s:Int),.int .i64 (er2 s:Int)]) (by simp [results,Tryz.results11,go_sem]) rfl ⟨none,0,rfl,hb1,⟨fun i e hi=>(by cases hi)⟩⟩
end Go.Proofs.YtchfphakhmifmabGreatDoor

import Derived.Test.YtchfphakhmifmabGreatDoorXPr2
import Derived.Test.YtchfphakhmifmabGreatDoorXDecl2
namespace Go.Proofs.YtchfphakhmifmabGreatDoor
set_option maxRecDepth 1000000
set_option maxHeartbeats 16000000
open Go.ChangeShapes Go.WideShapes Go.ChangeAt Go.RowKit Go.Shelf Go.Lib
def bla (c:Nat):Bool:=decide (c = 9 ∨ c = 10 ∨ c = 13 ∨ c = 32)
theorem rblank4 (c:Nat) (w:World):Calls Tryz.prog 161 #[.int .u8 (c:Int)] w fun e w'=>e = .returned (.bool (bla c)) ∧ w' = w:=by
 unfold bla
 by_cases h1:c = 9
 ·subst h1
  go_enter Tryz.func161,Tryz.ntmps161
  go_wp2_with fail
  go_ret
  exact ⟨rfl,rfl⟩
 ·have k1:((c:Int) == 9) = false:=beq_eq_false_iff_ne.2 (by omega)
  by_cases h2:c = 10
  ·subst h2
   go_enter Tryz.func161,Tryz.ntmps161
   go_wp2_with fail
   go_ret
   exact ⟨rfl,rfl⟩
  ·have k2:((c:Int) == 10) = false:=beq_eq_false_iff_ne.2 (by omega)
   by_cases h3:c = 13
   ·subst h3
    go_enter Tryz.func161,Tryz.ntmps161
    go_wp2_with fail
    go_ret
    exact ⟨rfl,rfl⟩
   ·have k3:((c:Int) == 13) = false:=beq_eq_false_iff_ne.2 (by omega)
    by_cases h4:c = 32
    ·subst h4
     go_enter Tryz.func161,Tryz.ntmps161
     go_wp2_with fail
     go_ret
     exact ⟨rfl,rfl⟩
    ·have k4:((c:Int) == 32) = false:=beq_eq_false_iff_ne.2 (by omega)
     go_enter Tryz.func161,Tryz.ntmps161
     go_wp2_with fail
     go_ret
     exact ⟨ret_bool (by simp [h1,h2,h3,h4]),rfl⟩
theorem bla_contains (b:UInt8):BLs.contains b = bla b.toNat:=by
 unfold bla
 rw [Bool.eq_iff_iff]
 simp [BLs,← UInt8.toNat_inj]
theorem ch_drop (s:ByteArray) (a:Nat) (h:a < s.size):∃ b r,s.data.toList.drop a = b :: r ∧ b.toNat = ch s a ∧ r = s.data.toList.drop (a + 1):=by
 have hl:a < s.data.toList.length:=by rw [tl_len];exact h
 refine ⟨s.data.toList[a],_,List.drop_eq_getElem_cons hl,?_,rfl⟩
 unfold ch
 simp [List.getD]
 rw [Array.getElem?_eq_getElem h]
 rfl
theorem skN_yes {s:ByteArray} {a:Nat} (h:a < s.size) (hb:bla (ch s a) = true):skN s a = skN s (a + 1):=by
 obtain ⟨b,r,e,hc,hr⟩:=ch_drop s a h
 unfold skN
 rw [e,List.findIdx_cons,bla_contains,hc,hb,← hr]
 simp
 omega
theorem skN_no {s:ByteArray} {a:Nat} (h:a < s.size) (hb:bla (ch s a) = false):skN s a = a:=by
 obtain ⟨b,r,e,hc,hr⟩:=ch_drop s a h
 unfold skN
 rw [e,List.findIdx_cons,bla_contains,hc,hb]
 simp
theorem skN_end (s:ByteArray):skN s s.size = s.size:=by
 unfold skN
 rw [List.drop_eq_nil_of_le (by rw [tl_len];exact Nat.le_refl _)]
 simp
theorem rblanks (R:Nat) (s:ByteArray) (a:Nat) (w:World) (h:RA w R s a) (ha:a ≤ s.size) (hs:s.size ≤ 9223372036854775800) :
  Calls Tryz.prog 129 #[.pointer (some ⟨R,0,none⟩)] w fun e w'=>e = .returned (.int .i64 ((skN s a - a:Nat):Int)) ∧ Mv R w w' ∧ RA w' R s (skN s a):=by
 have hk:=skN_le s a ha
 go_enter Tryz.func129,Tryz.ntmps129
 go_wp2_with fail
 go_loopw [3] (fun n wr=>∃ b:Nat,a ≤ b ∧ b ≤ s.size ∧ n = .int .i64 ((b - a:Nat):Int) ∧ skN s b = skN s a ∧ Mv R w wr ∧ RA wr R s b) (fun n _=>s.size - (RowKit.intOf n).toNat)
 case atStart=>exact ⟨a,Nat.le_refl _,ha,by rw [Nat.sub_self];rfl,rfl,Mv.refl R w,h⟩
 case round =>
  obtain ⟨b,hab,hbs,rfl,hsk,hM,hA⟩:=hrel
  have c0:=hA.h0
  have c1:=hA.h1
  have hf:=hA.fz 1
  by_cases hlt:b < s.size
  ·have hlt2:(b:Int) < s.size:=by omega
   have ix:∀ w:World,(Instr.index 9 (.string s) (.int .i64 (b:Int))).run Tryz.prog w = .ok (.int .u8 (ch s b:Int)) w:=fun w=>idx (w:=w) s b hlt .i64
   have cB:=fun w=>rblank4 (ch s b) w
   cases hb:bla (ch s b)
   ·rw [hb] at cB
    have hz:skN s a = b:=by rw [← hsk];exact skN_no hlt hb
    clear hb
    go_wp2_with fail
    go_quiet ((go_at_call 161;refine Calls.quiet_of_same (cB _)))
    go_wp2_with fail
    go_ret
    rw [hz]
    exact ⟨rfl,hM.drewN _,hA.drewN _⟩
   ·rw [hb] at cB
    have hz:skN s (b + 1) = skN s a:=by rw [← skN_yes hlt hb];exact hsk
    clear hb
    go_wp2_with fail
    go_quiet ((go_at_call 161;refine Calls.quiet_of_same (cB _)))
    go_wp2_with fail
    refine ⟨⟨b + 1,by omega,hlt,?_,hz,(hM.drewN nq).trans (Mv.set R _ _),(hA.drewN nq).put _ (by omega)⟩,?_⟩
    ·congr 1;omega
    ·simp only [RowKit.intOf];omega
  ·obtain rfl:b = s.size:=by omega
   have hz:skN s a = s.size:=by rw [← hsk];exact skN_end s
   go_wp2_with fail
   go_quiet ((go_at_call 161;refine Calls.quiet_of_same (cB _)))
   go_wp2_with fail
   go_ret
   rw [hz]
   exact ⟨rfl,hM.drewN _,hA.drewN _⟩
def hasN (s:ByteArray) (a:Nat) (p:ByteArray):Bool:=decide (p.size ≤ s.size - a) && decide (s.extract a (a + p.size) = p)
theorem rhas (R:Nat) (s:ByteArray) (a:Nat) (p:ByteArray) (w:World) (h:RA w R s a) (ha:a ≤ s.size) (hs:s.size ≤ 4611686018427387904) (hp:p.size ≤ 4611686018427387904) :
  Calls Tryz.prog 98 #[.pointer (some ⟨R,0,none⟩),.string p] w fun e w'=>e = .returned (.bool (hasN s a p)) ∧ Mv R w w' ∧ RA w' R s a:=by
 have c0:=h.h0
 have c1:=h.h1
 unfold hasN
 by_cases hle:p.size ≤ s.size - a
 ·rw [decide_eq_true hle,Bool.true_and]
  have hq:(p.size:Int) ≤ (s.size:Int) - (a:Int):=by omega
  have hx:=str_beq (s.extract a (a + p.size)) p
  generalize decide (s.extract a (a + p.size) = p) = x at hx ⊢
  go_enter Tryz.func98,Tryz.ntmps98
  go_wp2_with fail
  go_quiet (fail)
  go_wp2_with fail
  go_ret
  exact ⟨rfl,(Mv.refl R w).drewN _,h.drewN _⟩
 ·rw [decide_eq_false hle,Bool.false_and]
  have hq:¬ (p.size:Int) ≤ (s.size:Int) - (a:Int):=by omega
  have hq2:decide ((p.size:Int) ≤ (s.size:Int) - (a:Int)) = false:=decide_eq_false hq
  go_enter Tryz.func98,Tryz.ntmps98
  go_wp2_with fail
  go_quiet (fail)
  go_wp2_with fail
  go_ret
  exact ⟨rfl,(Mv.refl R w).drewN _,h.drewN _⟩
def endQ (s:ByteArray) (p q:Nat):Nat:=p + ((lOf s).drop p).findIdx (· == q)
theorem lOf_drop (s:ByteArray) (a:Nat) (h:a < s.size):(lOf s).drop a = ch s a :: (lOf s).drop (a + 1):=by
 have hl:a < (lOf s).length:=by rw [lOf_length];exact h
 rw [List.drop_eq_getElem_cons hl]
 congr 1
 have e:(lOf s)[a] = (s.data.toList[a]'(by rw [tl_len];exact h)).toNat:=by
  show (List.map UInt8.toNat s.data.toList)[a]'(by simpa [lOf] using hl) = _
  rw [List.getElem_map]
 rw [e]
 unfold ch
 simp [List.getD]
 rw [Array.getElem?_eq_getElem h]
 rfl
theorem endQ_yes {s:ByteArray} {p q:Nat} (h:p < s.size) (e:ch s p = q):endQ s p q = p:=by
 unfold endQ
 rw [lOf_drop s p h,List.findIdx_cons,e]
 simp
theorem endQ_no {s:ByteArray} {p q:Nat} (h:p < s.size) (e:ch s p ≠ q):endQ s p q = endQ s (p + 1) q:=by
 unfold endQ
 rw [lOf_drop s p h,List.findIdx_cons,beq_eq_false_iff_ne.2 e]
 simp
 omega
theorem endQ_end (s:ByteArray) (q:Nat):endQ s s.size q = s.size:=by
 unfold endQ
 rw [List.drop_eq_nil_of_le (by rw [lOf_length];exact Nat.le_refl _)]
 rfl
def sp2 (s:ByteArray) (a:Nat) (nm:ByteArray):Nat:=skN s (skN s a + nm.size)
def sp3 (s:ByteArray) (a:Nat) (nm:ByteArray):Nat:=skN s (sp2 s a nm + 1)
def spQ (s:ByteArray) (p:Nat):Bool:=hasN s p ⟨#[34]⟩ || hasN s p ⟨#[39]⟩
def saidZ (s:ByteArray) (a:Nat) (nm:ByteArray):ByteArray × Bool × Nat :=
 if (decide (a < skN s a) && hasN s (skN s a) nm) = true then
  if hasN s (sp2 s a nm) ⟨#[61]⟩ = true then
   if spQ s (sp3 s a nm) = true then
    if endQ s (sp3 s a nm + 1) (ch s (sp3 s a nm)) < s.size then (s.extract (sp3 s a nm + 1) (endQ s (sp3 s a nm + 1) (ch s (sp3 s a nm))),true,endQ s (sp3 s a nm + 1) (ch s (sp3 s a nm)) + 1)
    else (E0,false,a)
   else (E0,false,a)
  else (E0,false,a)
 else (E0,false,a)
theorem has_le {s p:ByteArray} {a:Nat} (ha:a ≤ s.size) (h:hasN s a p = true):a + p.size ≤ s.size:=by
 unfold hasN at h
 simp only [Bool.and_eq_true,decide_eq_true_eq] at h
 omega
theorem Hid.mk' {p:Prop} (h:p):Hid p:=h
theorem Mv.back {R:Nat} {w w1:World} (h:Mv R w w1) (u:Value):Mv R w (w1.setCell ⟨R,1,none⟩ u):=h.trans (Mv.set R w1 u)
theorem rsaid (R:Nat) (s:ByteArray) (a:Nat) (nm:ByteArray) (w:World) (h:RA w R s a) (ha:a ≤ s.size) (hs:s.size ≤ 4611686018427387904) (hn:nm.size ≤ 1000) :
  Calls Tryz.prog 131 #[.pointer (some ⟨R,0,none⟩),.string nm] w fun e w'=>e = .returned (.tuple #[.string (saidZ s a nm).1,.bool (saidZ s a nm).2.1]) ∧ Mv R w w' ∧ RA w' R s (saidZ s a nm).2.2:=by
 have F1:Hid (1 = 1):=rfl
 have F2:Hid (2 = 2):=rfl
 have F3:Hid (3 = 3):=rfl
 have F4:Hid (4 = 4):=rfl
 have F5:Hid (5 = 5):=rfl
 have d1:=h.h1
 have B1:=rblanks R s a w h ha (by omega)
 obtain ⟨m1,m2⟩:=skN_le s a ha
 by_cases h1:(decide (a < skN s a) && hasN s (skN s a) nm) = true
 ·have h2:a < skN s a:=by
   simp only [Bool.and_eq_true,decide_eq_true_eq] at h1;exact h1.1
  have h3:hasN s (skN s a) nm = true:=by
   simp only [Bool.and_eq_true,decide_eq_true_eq] at h1;exact h1.2
  have hz:saidZ s a nm = if hasN s (sp2 s a nm) ⟨#[61]⟩ = true then
   if spQ s (sp3 s a nm) = true then
    if endQ s (sp3 s a nm + 1) (ch s (sp3 s a nm)) < s.size then (s.extract (sp3 s a nm + 1) (endQ s (sp3 s a nm + 1) (ch s (sp3 s a nm))),true,endQ s (sp3 s a nm + 1) (ch s (sp3 s a nm)) + 1)
    else (E0,false,a)
   else (E0,false,a)
  else (E0,false,a):=by unfold saidZ;rw [if_pos h1]
  have m3:=has_le m2 h3
  have H1:=fun w1 hA=>rhas R s (skN s a) nm w1 hA m2 hs (by omega)
  have B2:=fun w1 hA=>rblanks R s (skN s a + nm.size) w1 hA m3 (by omega)
  obtain ⟨m4,m5⟩:=skN_le s _ m3
  rw [show skN s (skN s a + nm.size) = sp2 s a nm from rfl] at B2 m4 m5
  have H2:=fun w1 hA=>rhas R s (sp2 s a nm) ⟨#[61]⟩ w1 hA m5 hs (by decide)
  rw [h3] at H1
  have q:(0:Int) < ((skN s a - a:Nat):Int):=by omega
  rw [hz]
  clear h1 h3 hz
  have B3:=fun w1 hA hle=>rblanks R s (sp2 s a nm + 1) w1 hA hle (by omega)
  have M6:=fun hle=>skN_le s (sp2 s a nm + 1) hle
  rw [show skN s (sp2 s a nm + 1) = sp3 s a nm from rfl] at B3 M6
  generalize sp3 s a nm = p3 at *
  generalize sp2 s a nm = p2 at *
  generalize skN s a = p1 at *
  cases h4:hasN s p2 ⟨#[61]⟩
  ·rw [h4] at H2
   rw [if_neg (by decide)]
   clear h4 B3 M6
   go_enter Tryz.func131,Tryz.ntmps131
   go_wp2_with (first
    | (go_at_call 129;refine B1.mono ?_;clear F1 B1;rintro e w1 ⟨rfl,hM1,hA1⟩)
    | (go_at_call 98;refine (H1 _ hA1).mono ?_;clear F2 H1;rintro e w2 ⟨rfl,hM2,hA2⟩;have g1:=hA2.h1;have g2:=hA2.fz 1)
    | (go_at_call 129;refine (B2 _ (hA2.put ((p1:Int) + (nm.size:Int)) (by omega))).mono ?_;clear F3 B2;rintro e w3 ⟨rfl,hM3,hA3⟩)
    | (go_at_call_of 98 (Value.string ⟨#[61]⟩);refine (H2 _ hA3).mono ?_;clear H2;rintro e w4 ⟨rfl,hM4,hA4⟩;have g3:=hA4.h1;have g4:=hA4.fz 1))
   exact bodyPost_ret (v:=.tuple #[.string ⟨#[]⟩,.bool false]) (by simp [results,Tryz.results131,go_sem]) rfl ⟨rfl,((((hM1.trans hM2).back _).trans (hM3.trans hM4))).back _,(hA4).put _ rfl⟩
  ·have m6:p2 + 1 ≤ s.size:=has_le m5 h4
   obtain ⟨m7,m8⟩:=M6 m6
   replace B3:=fun w1 hA=>B3 w1 hA m6
   have H3:=fun w1 hA=>rhas R s p3 ⟨#[34]⟩ w1 hA m8 hs (by decide)
   have H4:=fun w1 hA=>rhas R s p3 ⟨#[39]⟩ w1 hA m8 hs (by decide)
   rw [h4] at H2
   rw [if_pos rfl]
   clear h4 M6
   have L3:hasN s p3 ⟨#[34]⟩ = true → p3 + 1 ≤ s.size:=has_le m8
   have L4:hasN s p3 ⟨#[39]⟩ = true → p3 + 1 ≤ s.size:=has_le m8
   unfold spQ
   generalize hasN s p3 ⟨#[34]⟩ = x at *
   generalize hasN s p3 ⟨#[39]⟩ = y at *
   have key:(x = false ∧ y = false) ∨ ((x = true ∨ (x = false ∧ y = true)) ∧ p3 + 1 ≤ s.size):=by cases x <;> cases y <;> simp_all
   clear L3 L4
   rcases key with ⟨rfl,rfl⟩ | ⟨hx,m9⟩
   ·rw [if_neg (by decide)]
    go_enter Tryz.func131,Tryz.ntmps131
    go_wp2_with (first
     | (go_at_call 129;refine B1.mono ?_;clear F1 B1;rintro e w1 ⟨rfl,hM1,hA1⟩)
     | (go_at_call 98;refine (H1 _ hA1).mono ?_;clear F2 H1;rintro e w2 ⟨rfl,hM2,hA2⟩;have g1:=hA2.h1;have g2:=hA2.fz 1)
     | (go_at_call 129;refine (B2 _ (hA2.put ((p1:Int) + (nm.size:Int)) (by omega))).mono ?_;clear F3 B2;rintro e w3 ⟨rfl,hM3,hA3⟩)
     | (go_at_call_of 98 (Value.string ⟨#[61]⟩);refine (H2 _ hA3).mono ?_;clear H2;rintro e w4 ⟨rfl,hM4,hA4⟩;have g3:=hA4.h1;have g4:=hA4.fz 1)
     | (go_at_call 129;refine (B3 _ (hA4.put ((p2:Int) + 1) (by omega))).mono ?_;clear B3;rintro e w5 ⟨rfl,hM5,hA5⟩)
     | (go_at_call_of 98 (Value.string ⟨#[34]⟩);refine (H3 _ hA5).mono ?_;clear H3;rintro e w6 ⟨rfl,hM6,hA6⟩;have g5:=hA6.h1;have g6:=hA6.fz 1;have g7:=hA6.h0;have HW:=Hid.mk' ((((hM1.trans hM2).back _).trans (hM3.trans hM4)).back _ |>.trans (hM5.trans hM6));have HA:=Hid.mk' hA6)
     | (go_at_call_of 98 (Value.string ⟨#[39]⟩);refine (H4 _ hA6).mono ?_;clear H4 HW HA;rintro e w7 ⟨rfl,hM7,hA7⟩;have g5:=hA7.h1;have g6:=hA7.fz 1;have g7:=hA7.h0;have HW:=Hid.mk' (((((hM1.trans hM2).back _).trans (hM3.trans hM4)).back _).trans (hM5.trans (hM6.trans hM7)));have HA:=Hid.mk' hA7))
    exact bodyPost_ret (v:=.tuple #[.string ⟨#[]⟩,.bool false]) (by simp [results,Tryz.results131,go_sem]) rfl ⟨rfl,(HW.out).back _,(HA.out).put _ rfl⟩
   ·have hxy:(x || y) = true:=by rcases hx with rfl | ⟨rfl,rfl⟩ <;> simp
    rw [if_pos hxy]
    clear hxy
    have ix:∀ w:World,(Instr.index 9 (.string s) (.int .i64 (p3:Int))).run Tryz.prog w = .ok (.int .u8 (ch s p3:Int)) w:=fun w=>idx (w:=w) s p3 m9 .i64
    have m10:(p3:Int) < s.size:=by omega
    generalize ch s p3 = c at *
    obtain ⟨Z,hZ⟩:∃ Z,Hid (Z = if endQ s (p3 + 1) c < s.size then (s.extract (p3 + 1) (endQ s (p3 + 1) c),true,endQ s (p3 + 1) c + 1) else (E0,false,a)):=⟨_,rfl⟩
    rw [← hZ.out]
    rcases hx with rfl | ⟨rfl,rfl⟩
    all_goals
     go_enter Tryz.func131,Tryz.ntmps131
     go_wp2_with (first
      | (go_at_call 129;refine B1.mono ?_;clear F1 B1;rintro e w1 ⟨rfl,hM1,hA1⟩)
      | (go_at_call 98;refine (H1 _ hA1).mono ?_;clear F2 H1;rintro e w2 ⟨rfl,hM2,hA2⟩;have g1:=hA2.h1;have g2:=hA2.fz 1)
      | (go_at_call 129;refine (B2 _ (hA2.put ((p1:Int) + (nm.size:Int)) (by omega))).mono ?_;clear F3 B2;rintro e w3 ⟨rfl,hM3,hA3⟩)
      | (go_at_call_of 98 (Value.string ⟨#[61]⟩);refine (H2 _ hA3).mono ?_;clear H2;rintro e w4 ⟨rfl,hM4,hA4⟩;have g3:=hA4.h1;have g4:=hA4.fz 1)
      | (go_at_call 129;refine (B3 _ (hA4.put ((p2:Int) + 1) (by omega))).mono ?_;clear B3;rintro e w5 ⟨rfl,hM5,hA5⟩)
      | (go_at_call_of 98 (Value.string ⟨#[34]⟩);refine (H3 _ hA5).mono ?_;clear H3;rintro e w6 ⟨rfl,hM6,hA6⟩;have g5:=hA6.h1;have g6:=hA6.fz 1;have g7:=hA6.h0;have HW:=Hid.mk' ((((hM1.trans hM2).back _).trans (hM3.trans hM4)).back _ |>.trans (hM5.trans hM6));have HA:=Hid.mk' hA6)
      | (go_at_call_of 98 (Value.string ⟨#[39]⟩);refine (H4 _ hA6).mono ?_;clear H4 HW HA;rintro e w7 ⟨rfl,hM7,hA7⟩;have g5:=hA7.h1;have g6:=hA7.fz 1;have g7:=hA7.h0;have HW:=Hid.mk' (((((hM1.trans hM2).back _).trans (hM3.trans hM4)).back _).trans (hM5.trans (hM6.trans hM7)));have HA:=Hid.mk' hA7))
     go_quiet (fail)
     go_wp2_with fail
     go_loopw [8] (fun i wr=>∃ k:Nat,p3 + 1 ≤ k ∧ k ≤ s.size ∧ i = .int .i64 (k:Int) ∧ endQ s k c = endQ s (p3 + 1) c ∧ Mv R w wr ∧ RA wr R s p3) (fun i _=>s.size - (RowKit.intOf i).toNat)
     case atStart=>exact ⟨p3 + 1,Nat.le_refl _,m9,by go_num,rfl,HW.out.drewN _,HA.out.drewN _⟩
     case round =>
      obtain ⟨k,hk1,hk2,rfl,hE,hM,hA⟩:=hrel
      have j0:=hA.h0
      have j1:=hA.h1
      have j2:=hA.fz 1
      by_cases hlt:k < s.size
      ·have hlt2:(k:Int) < s.size:=by omega
       have iy:∀ w:World,(Instr.index 9 (.string s) (.int .i64 (k:Int))).run Tryz.prog w = .ok (.int .u8 (ch s k:Int)) w:=fun w=>idx (w:=w) s k hlt .i64
       by_cases hc:ch s k = c
       ·have hz:endQ s (p3 + 1) c = k:=by rw [← hE];exact endQ_yes hlt hc
        obtain rfl:Z = (s.extract (p3 + 1) k,true,k + 1):=by rw [hZ.out,hz,if_pos hlt]
        rw [hc] at iy
        clear hE hz hc hZ
        have hk3:(p3:Int) + 1 ≤ (k:Int):=by omega
        go_wp2_with fail
        go_quiet (fail)
        go_wp2_with fail
        exact bodyPost_ret (v:=.tuple #[.string (s.extract (p3 + 1) k),.bool true]) (by simp [results,Tryz.results131,go_sem]) rfl ⟨rfl,(hM.drewN _).back _,(hA.drewN _).put _ (by omega)⟩
       ·have hE2:endQ s (k + 1) c = endQ s (p3 + 1) c:=by rw [← endQ_no hlt hc];exact hE
        have hc2:((ch s k:Int) == (c:Int)) = false:=beq_eq_false_iff_ne.2 (by omega)
        have hc3:¬ (ch s k:Int) = (c:Int):=by omega
        generalize ch s k = d at *
        clear hE hc
        go_wp2_with fail
        go_roundw
        case rel=>exact ⟨k + 1,by omega,by omega,by go_num,hE2,hM,hA⟩
        case measure=>simp [RowKit.intOf];omega
      ·obtain rfl:k = s.size:=by omega
       have hz:endQ s (p3 + 1) c = s.size:=by rw [← hE];exact endQ_end s c
       obtain rfl:Z = (E0,false,a):=by rw [hZ.out,hz,if_neg (Nat.lt_irrefl _)]
       have hlt2:¬ (s.size:Int) < s.size:=by omega
       clear hE hz hZ
       go_wp2_with fail
       exact bodyPost_ret (v:=.tuple #[.string ⟨#[]⟩,.bool false]) (by simp [results,Tryz.results131,go_sem]) rfl ⟨rfl,hM.back _,hA.put _ rfl⟩
 ·have hz:saidZ s a nm = (E0,false,a):=by unfold saidZ;rw [if_neg h1]
  rw [hz]
  have H1:=fun w1 hA=>rhas R s (skN s a) nm w1 hA m2 hs (by omega)
  by_cases h2:a < skN s a
  ·have h3:hasN s (skN s a) nm = false:=by
    rw [decide_eq_true h2,Bool.true_and] at h1
    exact Bool.eq_false_iff.2 h1
   rw [h3] at H1
   have q:(0:Int) < ((skN s a - a:Nat):Int):=by omega
   clear h1 h3 hz
   generalize skN s a = p1 at *
   go_enter Tryz.func131,Tryz.ntmps131
   go_wp2_with (first
    | (go_at_call 129;refine B1.mono ?_;clear F1;rintro e w1 ⟨rfl,hM1,hA1⟩)
    | (go_at_call 98;refine (H1 _ hA1).mono ?_;clear F2;rintro e w2 ⟨rfl,hM2,hA2⟩;have g1:=hA2.h1;have g2:=hA2.fz 1))
   exact bodyPost_ret (v:=.tuple #[.string ⟨#[]⟩,.bool false]) (by simp [results,Tryz.results131,go_sem]) rfl ⟨rfl,(hM1.trans hM2).back _,hA2.put _ rfl⟩
  ·have q:¬ (0:Int) < ((skN s a - a:Nat):Int):=by omega
   clear h1 hz H1
   generalize skN s a = p1 at *
   go_enter Tryz.func131,Tryz.ntmps131
   go_wp2_with (first
    | (go_at_call 129;refine B1.mono ?_;clear F1;rintro e w1 ⟨rfl,hM1,hA1⟩;have g1:=hA1.h1;have g2:=hA1.fz 1))
   exact bodyPost_ret (v:=.tuple #[.string ⟨#[]⟩,.bool false]) (by simp [results,Tryz.results131,go_sem]) rfl ⟨rfl,hM1.back _,hA1.put _ rfl⟩
def lowN (c:Nat):Nat:=if 65 ≤ c ∧ c ≤ 90 then c + 32 else c
def lowB (s:ByteArray):ByteArray:=sOf ((lOf s).map lowN)
structure LR (w:World) (G:Nat) (s:ByteArray) (k:Nat):Prop where
 c:∀ j,j < s.size → w.cell? ⟨G,j,none⟩ = some (.int .u8 ((if j < k then lowN (ch s j) else ch s j:Nat):Int))
 fz:∀ j,j < s.size → w.frozen? ⟨G,j,none⟩ = false
 lt:G < w.heap.size
theorem LR.of (w:World) (s:ByteArray):LR (bytesWorld w 5 s) w.heap.size s 0 :=
 ⟨fun j hj=>by rw [bytesWorld_cell w _ s j hj,if_neg (Nat.not_lt_zero _)];rfl,
  fun j hj=>by
   have hz:s.size ≤ (bytesCells w 5 s).size:=by unfold bytesCells;rw [Array.size_append,Array.size_map];exact Nat.le_add_right _ _
   simp [World.frozen?,bytesWorld_at_new]
   omega,
  by rw [bytesWorld_size];omega⟩
theorem LR.next {w:World} {G:Nat} {s:ByteArray} {k:Nat} (h:LR w G s k) (hn:lowN (ch s k) = ch s k):LR w G s (k + 1) :=
 ⟨fun j hj=>by
  rw [h.c j hj]
  by_cases e:j = k
  ·subst e;rw [if_neg (Nat.lt_irrefl _),if_pos (Nat.lt_succ_self _),hn]
  ·by_cases l:j < k
   ·rw [if_pos l,if_pos (by omega)]
   ·rw [if_neg l,if_neg (by omega)],h.fz,h.lt⟩
theorem LR.put {w:World} {G:Nat} {s:ByteArray} {k:Nat} (h:LR w G s k) (hk:k < s.size) (z:Int) (hz:z = (lowN (ch s k):Int)):LR (w.setCell ⟨G,k,none⟩ (.int .u8 z)) G s (k + 1) :=
 ⟨fun j hj=>by
   by_cases e:j = k
   ·subst e;rw [if_pos (Nat.lt_succ_self _),← hz];exact World.cell?_setCell_same w ⟨G,j,none⟩ _ (h.c j hj)
   ·rw [World.cell?_setCell_other w _ _ _ (fun q=>e (by injection q with _ q2;exact q2.symm)),h.c j hj]
    by_cases l:j < k
    ·rw [if_pos l,if_pos (by omega)]
    ·rw [if_neg l,if_neg (by omega)],
  fun j hj=>by rw [World.frozen?_setCell];exact h.fz j hj,by simpa [World.setCell] using h.lt⟩
theorem LR.conv {w:World} {G:Nat} {s:ByteArray} (h:LR w G s s.size) (cap:Nat):(convert 59 9 (.slice (some ⟨G,0,none⟩) s.size cap)).run Tryz.prog w = .ok (.string (lowB s)) w:=by
 have hl:((lOf s).map lowN).length = s.size:=by rw [List.length_map,lOf_length]
 have:=run_convert_bytes_arg w 59 5 Tryz.underlying59 Tryz.underlying5 G 0 s.size cap (((lOf s).map lowN).map Int.ofNat) (by rw [List.length_map,hl]) (fun i hi=>by
  rw [Nat.zero_add,h.c i hi,if_pos hi,ch_lOf]
  simp [List.getD,lOf_length,hi]) 9 Tryz.underlying9
 have e:strOfNums (((lOf s).map lowN).map Int.ofNat) = lowB s:=by
  unfold strOfNums lowB sOf
  simp [Function.comp_def]
 rw [this,e]
theorem rlower (s:ByteArray) (w:World) (hs:s.size ≤ 4611686018427387904):Calls Tryz.prog 132 #[.string s] w fun e w'=>e = .returned (.string (lowB s)) ∧ Below w.heap.size w w':=by
 have hc:=conv_bytes s w
 have h0:=LR.of w s
 have hb:=Lib.bytesWorld_below w 5 s
 generalize bytesWorld w 5 s = w0 at *
 go_enter Tryz.func132,Tryz.ntmps132
 go_wp2_with fail
 go_loopw [9] (fun i wr=>∃ k:Nat,k ≤ s.size ∧ i = .int .i64 k ∧ Below w.heap.size w wr ∧ LR wr w.heap.size s k) (fun i _=>s.size - (RowKit.intOf i).toNat)
 case atStart=>exact ⟨0,Nat.zero_le _,rfl,hb,h0⟩
 case round =>
  obtain ⟨k,hk,rfl,hB,hL⟩:=hrel
  by_cases hlt:k < s.size
  ·have hlt2:(k:Int) < s.size:=by omega
   have c0:=hL.c k hlt
   have f0:=hL.fz k hlt
   rw [if_neg (Nat.lt_irrefl _)] at c0
   by_cases hq:65 ≤ ch s k ∧ ch s k ≤ 90
   ·have hn:lowN (ch s k) = ch s k + 32:=if_pos hq
    have q1:(65:Int) ≤ (ch s k:Int):=by omega
    have q2:(ch s k:Int) ≤ 90:=by omega
    have hp:=hL.put hlt ((ch s k:Int) + 32) (by rw [hn];rfl)
    generalize ch s k = c at *
    go_wp2_with fail
    refine ⟨⟨k + 1,hlt,rfl,hB.setCell (Nat.le_refl _) _,hp⟩,?_⟩
    simp only [RowKit.intOf];omega
   ·have hn:lowN (ch s k) = ch s k:=if_neg hq
    have hp:=hL.next hn
    generalize ch s k = c at *
    by_cases q1:65 ≤ c
    ·have q2:(65:Int) ≤ (c:Int):=by omega
     have q3:¬ (c:Int) ≤ 90:=by omega
     clear hn hq
     go_wp2_with fail
     refine ⟨⟨k + 1,hlt,rfl,hB,hp⟩,?_⟩
     simp only [RowKit.intOf];omega
    ·have q2:¬ (65:Int) ≤ (c:Int):=by omega
     clear hn hq
     go_wp2_with fail
     refine ⟨⟨k + 1,hlt,rfl,hB,hp⟩,?_⟩
     simp only [RowKit.intOf];omega
  ·obtain rfl:k = s.size:=by omega
   have hz:¬ (s.size:Int) < s.size:=by omega
   have hcv:=fun c=>hL.conv c
   go_wp2_with fail
   go_ret
   exact ⟨rfl,hB⟩
theorem saidZ_le (s:ByteArray) (a:Nat) (nm:ByteArray) (ha:a ≤ s.size):(saidZ s a nm).2.2 ≤ s.size:=by
 unfold saidZ
 split
 ·split
  ·split
   ·split
    ·rename_i h;exact h
    ·exact ha
   ·exact ha
  ·exact ha
 ·exact ha
theorem saidZ_size (s:ByteArray) (a:Nat) (nm:ByteArray):(saidZ s a nm).1.size ≤ s.size:=by
 unfold saidZ
 split
 ·split
  ·split
   ·split
    ·exact ext_size_le _ _ _
    ·exact Nat.zero_le _
   ·exact Nat.zero_le _
  ·exact Nat.zero_le _
 ·exact Nat.zero_le _
abbrev nVER:ByteArray:=⟨#[118,101,114,115,105,111,110]⟩
abbrev nENC:ByteArray:=⟨#[101,110,99,111,100,105,110,103]⟩
abbrev nSTA:ByteArray:=⟨#[115,116,97,110,100,97,108,111,110,101]⟩
def z1 (s:ByteArray) (a:Nat):=saidZ s a nVER
def z2 (s:ByteArray) (a:Nat):=saidZ s (z1 s a).2.2 nENC
def z3 (s:ByteArray) (a:Nat):=saidZ s (z2 s a).2.2 nSTA
def dclF (b1 x1 b2 x2 b3 x3 x4 h:Bool) (p:Nat):Int:=if b1 && x1 && (!b2 || x2) && (!b3 || x3 || x4) && h then (p:Int) else -1
def dclZ (s:ByteArray) (a:Nat):Int :=
 dclF (z1 s a).2.1 (decide ((z1 s a).1 = ⟨#[49,46,48]⟩)) (z2 s a).2.1 (decide (lowB (z2 s a).1 = ⟨#[117,116,102,45,56]⟩)) (z3 s a).2.1 (decide ((z3 s a).1 = ⟨#[121,101,115]⟩)) (decide ((z3 s a).1 = ⟨#[110,111]⟩)) (hasN s (skN s (z3 s a).2.2) ⟨#[63,62]⟩) (skN s (z3 s a).2.2)
abbrev rdP (s:ByteArray) (a:Nat):Obj:=.cells #[.string s,.int .i64 (a:Int),.slice none 0 0,.int .i64 0,.int .i64 0] 103
theorem RA.newP (w:World) (s:ByteArray) (a:Nat):RA (w.alloc (rdP s a)) w.heap.size s a:=by
 have hh:(w.alloc (rdP s a)).heap[w.heap.size]? = some (rdP s a):=by
  show (w.heap.push _)[w.heap.size]? = _
  rw [Array.getElem?_push,if_pos rfl]
 exact ⟨by simp only [World.cell?,hh];rfl,by simp only [World.cell?,hh];rfl,fun o=>by simp only [World.frozen?,hh];simp,by rw [World.size_alloc];omega⟩
theorem rdcl_core (s:ByteArray) (a:Nat) (w:World) (v1 v2 v3 l2:ByteArray) (b1 b2 b3 x1 x2 x3 x4 h:Bool) (p1 p2 p3 p:Nat)
  (e1:(v1.toList == [49,46,48]) = x1) (e2:(l2.toList == [117,116,102,45,56]) = x2) (e3:(v3.toList == [121,101,115]) = x3) (e4:(v3.toList == [110,111]) = x4)
  (C1:∀ w1,RA w1 w.heap.size s a → Calls Tryz.prog 131 #[.pointer (some ⟨w.heap.size,0,none⟩),.string nVER] w1 fun e w'=>e = .returned (.tuple #[.string v1,.bool b1]) ∧ Mv w.heap.size w1 w' ∧ RA w' w.heap.size s p1)
  (C2:∀ w1,RA w1 w.heap.size s p1 → Calls Tryz.prog 131 #[.pointer (some ⟨w.heap.size,0,none⟩),.string nENC] w1 fun e w'=>e = .returned (.tuple #[.string v2,.bool b2]) ∧ Mv w.heap.size w1 w' ∧ RA w' w.heap.size s p2)
  (C3:∀ w1,RA w1 w.heap.size s p2 → Calls Tryz.prog 131 #[.pointer (some ⟨w.heap.size,0,none⟩),.string nSTA] w1 fun e w'=>e = .returned (.tuple #[.string v3,.bool b3]) ∧ Mv w.heap.size w1 w' ∧ RA w' w.heap.size s p3)
  (L:∀ w1,Calls Tryz.prog 132 #[.string v2] w1 fun e w'=>e = .returned (.string l2) ∧ Below w1.heap.size w1 w')
  (B:∀ w1,RA w1 w.heap.size s p3 → Calls Tryz.prog 129 #[.pointer (some ⟨w.heap.size,0,none⟩)] w1 fun e w'=>e = .returned (.int .i64 ((p - p3:Nat):Int)) ∧ Mv w.heap.size w1 w' ∧ RA w' w.heap.size s p)
  (H:∀ w1,RA w1 w.heap.size s p → Calls Tryz.prog 98 #[.pointer (some ⟨w.heap.size,0,none⟩),.string ⟨#[63,62]⟩] w1 fun e w'=>e = .returned (.bool h) ∧ Mv w.heap.size w1 w' ∧ RA w' w.heap.size s p) :
  Calls Tryz.prog 99 #[.string s,.int .i64 (a:Int)] w fun e w'=>e = .returned (.int .i64 (dclF b1 x1 b2 x2 b3 x3 x4 h p)) ∧ Below w.heap.size w w':=by
 have HA:=RA.newP w s a
 have HM:=Mv.refl w.heap.size (w.alloc (rdP s a))
 have key:b1 = false ∨ (b1 = true ∧ x1 = false) ∨ (b1 = true ∧ x1 = true ∧ b2 = true ∧ x2 = false) ∨ ((b1 = true ∧ x1 = true ∧ (b2 = false ∨ (b2 = true ∧ x2 = true))) ∧ ((b3 = true ∧ x3 = false ∧ x4 = false) ∨ ((b3 = false ∨ (b3 = true ∧ x3 = true) ∨ (b3 = true ∧ x3 = false ∧ x4 = true)) ∧ (h = false ∨ h = true)))):=by
  cases b1 <;> cases x1 <;> cases b2 <;> cases x2 <;> cases b3 <;> cases x3 <;> cases x4 <;> cases h <;> simp
 rcases key with rfl | ⟨rfl,rfl⟩ | ⟨rfl,rfl,rfl,rfl⟩ | ⟨⟨rfl,rfl,rfl | ⟨rfl,rfl⟩⟩,⟨rfl,rfl,rfl⟩ | ⟨rfl | ⟨rfl,rfl⟩ | ⟨rfl,rfl,rfl⟩,rfl | rfl⟩⟩
 all_goals
  unfold dclF
  simp only [Bool.false_and,Bool.and_false,Bool.and_true,Bool.not_true,Bool.not_false,Bool.or_false,Bool.true_or,Bool.or_true,if_true,Bool.false_eq_true,if_false]
  go_enter Tryz.func99,Tryz.ntmps99
  go_wp2_with (first
   | (go_at_call_of 131 (Value.string ⟨#[118,101,114,115,105,111,110]⟩);refine (C1 _ HA).mono ?_;clear C1;rintro e w1 ⟨rfl,hM,hA⟩;replace HM:=HM.trans hM;replace HA:=hA;have g1:=hA.h1)
   | (go_at_call_of 131 (Value.string ⟨#[101,110,99,111,100,105,110,103]⟩);refine (C2 _ HA).mono ?_;clear C2;rintro e w1 ⟨rfl,hM,hA⟩;replace HM:=HM.trans hM;replace HA:=hA;have g1:=hA.h1)
   | (go_at_call_of 131 (Value.string ⟨#[115,116,97,110,100,97,108,111,110,101]⟩);refine (C3 _ HA).mono ?_;clear C3;rintro e w1 ⟨rfl,hM,hA⟩;replace HM:=HM.trans hM;replace HA:=hA;have g1:=hA.h1)
   | (go_at_call 132;refine (L _).mono ?_;clear L;rintro e w1 ⟨rfl,hM⟩;replace HM:=HM.trans (Mv.of hM HA.lt);replace HA:=HA.below hM;have g1:=HA.h1)
   | (go_at_call 129;refine (B _ HA).mono ?_;clear B;rintro e w1 ⟨rfl,hM,hA⟩;replace HM:=HM.trans hM;replace HA:=hA;have g1:=hA.h1)
   | (go_at_call 98;refine (H _ HA).mono ?_;clear H;rintro e w1 ⟨rfl,hM,hA⟩;replace HM:=HM.trans hM;replace HA:=hA;have g1:=hA.h1))
  go_ret
  exact ⟨rfl,(bel1 w (rdP s a)).trans (HM.but.below (Nat.le_refl _) (by rw [World.size_alloc];omega))⟩
theorem rDeclared (s:ByteArray) (a:Nat) (w:World) (ha:a ≤ s.size) (hs:s.size ≤ 4611686018427387904) :
  Calls Tryz.prog 99 #[.string s,.int .i64 (a:Int)] w fun e w'=>e = .returned (.int .i64 (dclZ s a)) ∧ Below w.heap.size w w':=by
 have l1:(z1 s a).2.2 ≤ s.size:=saidZ_le _ _ _ ha
 have l2:(z2 s a).2.2 ≤ s.size:=saidZ_le _ _ _ l1
 have l3:(z3 s a).2.2 ≤ s.size:=saidZ_le _ _ _ l2
 have l4:(z2 s a).1.size ≤ s.size:=saidZ_size _ _ _
 have e1:=str_beq (z1 s a).1 ⟨#[49,46,48]⟩
 have e2:=str_beq (lowB (z2 s a).1) ⟨#[117,116,102,45,56]⟩
 have e3:=str_beq (z3 s a).1 ⟨#[121,101,115]⟩
 have e4:=str_beq (z3 s a).1 ⟨#[110,111]⟩
 rw [ByteArray.toList_eq ⟨#[49,46,48]⟩] at e1
 rw [ByteArray.toList_eq ⟨#[117,116,102,45,56]⟩] at e2
 rw [ByteArray.toList_eq ⟨#[121,101,115]⟩] at e3
 rw [ByteArray.toList_eq ⟨#[110,111]⟩] at e4
 exact rdcl_core s a w _ _ _ _ _ _ _ _ _ _ _ _ _ _ _ _ e1 e2 e3 e4 (fun w1 h=>rsaid _ s a nVER w1 h ha hs (by decide)) (fun w1 h=>rsaid _ s _ nENC w1 h l1 hs (by decide)) (fun w1 h=>rsaid _ s _ nSTA w1 h l2 hs (by decide))
  (fun w1=>rlower _ w1 (Nat.le_trans l4 hs)) (fun w1 h=>rblanks _ s _ w1 h l3 (by omega)) (fun w1 h=>rhas _ s _ ⟨#[63,62]⟩ w1 h (skN_le s _ l3).2 hs (by decide))
end Go.Proofs.YtchfphakhmifmabGreatDoor

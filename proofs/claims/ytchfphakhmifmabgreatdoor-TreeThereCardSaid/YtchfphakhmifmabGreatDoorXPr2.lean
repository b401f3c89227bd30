import Derived.Test.YtchfphakhmifmabGreatDoorXPr
namespace Go.Proofs.YtchfphakhmifmabGreatDoor
set_option maxRecDepth 1000000
set_option maxHeartbeats 16000000
open Go.ChangeShapes Go.WideShapes Go.ChangeAt Go.RowKit Go.Shelf Go.Lib
theorem upTo_any (R:Nat) (s E:ByteArray) (a:Nat) (w:World) (h:RA w R s a) (ha:a ≤ s.size) (hs:s.size < 4294967281) (hE:1 ≤ E.size) (hE2:E.size < 4294967281) (hcs:∀ b ∈ E.data.toList,b.toNat < 128) :
  Calls Tryz.prog 146 #[.pointer (some ⟨R,0,none⟩),.string E] w fun e w'=>e = .returned (.string (s.extract a (upN E.data.toList s a))) ∧ Mv R w w' ∧ RA w' R s (upN E.data.toList s a):=by
 have c0:∀ n,(w.drewN n).cell? ⟨R,0,none⟩ = some (.string s):=fun n=>h.h0
 have c1:∀ n,(w.drewN n).cell? ⟨R,1,none⟩ = some (.int .i64 (a:Int)):=fun n=>h.h1
 have sl:∀ w:World,(Instr.slice 9 (.string s) (some (.int .i64 (a:Int))) none none).run Tryz.prog w = .ok (.string (s.extract a s.size)) w:=fun w=>slice_from s a ha w
 have hz:(s.extract a s.size).size = s.size - a:=size_ext s a s.size (Nat.le_refl _)
 have cI:=fun w=>IndexAny_any (s.extract a s.size) E w hE (by omega) hE2 hcs
 rw [list_from,indexAny_eq,drop_len] at cI
 have hu:=upN_le E.data.toList s a ha
 have hue:upN E.data.toList s a = a + (s.data.toList.drop a).findIdx (E.data.toList.contains ·):=rfl
 generalize (s.data.toList.drop a).findIdx (E.data.toList.contains ·) = k at cI hue
 rw [hue] at hu ⊢
 by_cases hk:k < s.size - a
 ·rw [if_pos hk] at cI
  have s2:∀ w:World,(Instr.slice 9 (.string (s.extract a s.size)) none (some (.int .i64 (k:Int))) none).run Tryz.prog w = .ok (.string ((s.extract a s.size).extract 0 k)) w:=fun w=>by
   rw [run_slice_string_to_if w 9 _ .i64 _ Tryz.underlying9,if_pos ⟨by omega,by omega⟩,Int.toNat_natCast]
  have hx:(s.extract a s.size).extract 0 k = s.extract a (a + k):=by
   apply ba_ext
   rw [list_ext,list_from,list_ext,List.drop_zero]
   congr 1
   omega
  have hz2:(s.extract a (a + k)).size = k:=by rw [size_ext s a (a + k) (by omega)];omega
  rw [hx] at s2
  generalize s.extract a (a + k) = v at s2 hz2 ⊢
  generalize s.extract a s.size = u at sl cI s2
  clear hx hz
  go_enter Tryz.func146,Tryz.ntmps146
  go_wp2_with fail
  go_quiet (fail)
  have hA:=h.drewN nq
  have hM:=(Mv.refl R w).drewN nq
  generalize w.drewN nq = w0 at hA hM ⊢
  go_wp2_with (go_at_call 167;refine (cI _).mono ?_;rintro e w1 ⟨rfl,hb⟩;have hM1:=Mv.of hb hA.lt;have hA1:=hA.below hb;have d1:=hA1.h1;have df:=hA1.fz 1)
  go_ret
  exact ⟨rfl,(hM.trans hM1).trans (Mv.set R _ _),hA1.put _ (by rw [Int.natCast_add])⟩
 ·rw [if_neg hk] at cI
  have he:a + k = s.size:=by omega
  rw [he]
  generalize s.extract a s.size = u at sl cI hz ⊢
  go_enter Tryz.func146,Tryz.ntmps146
  go_wp2_with fail
  go_quiet (fail)
  have hA:=h.drewN nq
  have hM:=(Mv.refl R w).drewN nq
  generalize w.drewN nq = w0 at hA hM ⊢
  go_wp2_with (go_at_call 167;refine (cI _).mono ?_;rintro e w1 ⟨rfl,hb⟩;have hM1:=Mv.of hb hA.lt;have hA1:=hA.below hb;have d1:=hA1.h1;have df:=hA1.fz 1)
  go_ret
  exact ⟨rfl,(hM.trans hM1).trans (Mv.set R _ _),hA1.put _ (by omega)⟩
inductive Rz where
 | bad (e p:Nat)
 | val (v:ByteArray) (a:Nat)
def RzPost (R:Nat) (s:ByteArray) (w:World) (z:Rz) (e:Ending) (w':World):Prop :=
 Mv R w w' ∧ match z with
  | .bad er p=>e = .panicked [pv er p]
  | .val v a=>e = .returned (.string v) ∧ RA w' R s a
abbrev NEb:ByteArray:=⟨#[9,10,13,32,60,62,47,61,34,39,38]⟩
def nameZ (s:ByteArray) (a:Nat):Rz :=
 if s.size ≤ a then .bad 41 s.size
 else if xmlNameB (s.extract a (upN NEb.data.toList s a)) = true then .val (s.extract a (upN NEb.data.toList s a)) (upN NEb.data.toList s a) else .bad 42 a
theorem name_any (R:Nat) (s:ByteArray) (a:Nat) (w:World) (h:RA w R s a) (ha:a ≤ s.size) (hs:s.size < 4294967281) :
  Calls Tryz.prog 148 #[.pointer (some ⟨R,0,none⟩)] w (RzPost R s w (nameZ s a)):=by
 have c1:=h.h1
 unfold nameZ
 by_cases hlt:s.size ≤ a
 ·obtain rfl:a = s.size:=by omega
  rw [if_pos hlt]
  have hp:=peek_end R s w h
  go_enter Tryz.func148,Tryz.ntmps148
  go_wp2_with (go_at_call 152;refine hp.mono ?_;clear hp;rintro e w1 ⟨rfl,hm⟩)
  exact ⟨rfl,hm,rfl⟩
 ·rw [if_neg hlt]
  have hp:=peek_ok R s a w h (by omega)
  have hu:=upN_le NEb.data.toList s a ha
  have cU:=fun w h=>upTo_any R s NEb a w h ha hs (by decide) (by decide) (by decide)
  have hz:=size_ext s a (upN NEb.data.toList s a) hu.2
  have cX:=fun w=>XMLName_any (s.extract a (upN NEb.data.toList s a)) (by omega) w
  have cC:=fun w=>strClone (s.extract a (upN NEb.data.toList s a)) w (by omega)
  generalize s.extract a (upN NEb.data.toList s a) = v at *
  generalize upN NEb.data.toList s a = b at *
  cases hx:xmlNameB v
  ·rw [hx] at cX
   rw [if_neg (by decide)]
   go_enter Tryz.func148,Tryz.ntmps148
   go_wp2_with (first
    | (go_at_call 152;refine hp.mono ?_;clear hp;rintro e w1 ⟨rfl,hm1,h1⟩)
    | (go_at_call 146;refine (cU _ h1).mono ?_;clear cU;rintro e w2 ⟨rfl,hm2,h2⟩)
    | (go_at_call 54;refine (cX _).mono ?_;rintro e w3 ⟨rfl,rfl⟩)
    | (go_at_call 85;refine (giveUp_lit 42 42 a rfl _).mono ?_;rintro e w4 ⟨rfl,rfl⟩))
   exact ⟨rfl,hm1.trans hm2,rfl⟩
  ·rw [hx] at cX
   rw [if_pos rfl]
   go_enter Tryz.func148,Tryz.ntmps148
   go_wp2_with (first
    | (go_at_call 152;refine hp.mono ?_;clear hp;rintro e w1 ⟨rfl,hm1,h1⟩)
    | (go_at_call 146;refine (cU _ h1).mono ?_;clear cU;rintro e w2 ⟨rfl,hm2,h2⟩)
    | (go_at_call 54;refine (cX _).mono ?_;rintro e w3 ⟨rfl,rfl⟩)
    | (go_at_call 112;refine (cC _).mono ?_;rintro e w4 ⟨rfl,hb4⟩))
   go_ret
   exact ⟨(hm1.trans hm2).trans (Mv.of hb4 h2.lt),rfl,h2.below hb4⟩
def plainZ (v:ByteArray) (at_:Nat):Option (Nat × Nat) × ByteArray:=if (uneN v).2.1 = 0 then (none,sOf (uneN v).1) else (some ((uneN v).2.1,at_ + (uneN v).2.2),⟨#[]⟩)
theorem uneF_place (s:ByteArray):∀ n a acc,(uneF s n a acc).2.2 ≤ s.size
 | 0,a,acc=>Nat.zero_le _
 | n + 1,a,acc=>by
  simp only [uneF]
  split
  ·exact Nat.zero_le _
  ·split
   ·split
    ·exact uneF_place s n _ _
    ·show a ≤ s.size
     omega
   ·exact uneF_place s n _ _
theorem une_place (s:ByteArray):(uneN s).2.2 ≤ s.size:=uneF_place s _ _ _
def PlainPost (z:Option (Nat × Nat) × ByteArray) (e:Ending):Prop :=
 match z with
 | (none,t)=>e = .returned (.string t)
 | (some (er,q),_)=>e = .panicked [pv er q]
theorem plain_any (v:ByteArray) (p:Nat) (w:World) (hv:v.size < 4294967281) (hp:p < 4294967281) :
  Calls Tryz.prog 147 #[.string v,.int .i64 (p:Int)] w fun e w'=>Below w.heap.size w w' ∧ PlainPost (plainZ v p) e:=by
 have cU:=fun w=>Unescape_any v w (by omega)
 have hq:=une_place v
 unfold plainZ
 generalize (uneN v).1 = L at *
 generalize (uneN v).2.1 = er at *
 generalize (uneN v).2.2 = q at *
 by_cases h0:er = 0
 ·subst h0
  rw [if_pos rfl]
  go_enter Tryz.func147,Tryz.ntmps147
  go_wp2_with (go_at_call 168;refine (cU _).mono ?_;rintro e w1 ⟨rfl,hb⟩)
  go_ret
  exact ⟨hb,rfl⟩
 ·rw [if_neg h0]
  have h1:((er:Int) == 0) = false:=beq_eq_false_iff_ne.2 (by omega)
  have h2:¬ (er:Int) = 0:=by omega
  have cg:=fun w=>giveUp_any er (p + q) w
  rw [Int.natCast_add] at cg
  go_enter Tryz.func147,Tryz.ntmps147
  go_wp2_with (first
   | (go_at_call 168;refine (cU _).mono ?_;rintro e w1 ⟨rfl,hb⟩)
   | (go_at_call 85;refine (cg _).mono ?_;rintro e w4 ⟨rfl,rfl⟩))
  exact ⟨rfl,hb,rfl⟩
def valQ (s:ByteArray) (a:Nat) (q:UInt8):Rz :=
 if s.size ≤ upN [60,q] s (a + 1) then .bad 41 s.size
 else if ch s (upN [60,q] s (a + 1)) = q.toNat then
  match plainZ (s.extract (a + 1) (upN [60,q] s (a + 1))) (a + 1) with
  | (none,t)=>.val t (upN [60,q] s (a + 1) + 1)
  | (some (er,p),_)=>.bad er p
 else .bad 40 (upN [60,q] s (a + 1))
def valueZ (s:ByteArray) (a:Nat):Rz :=
 if s.size ≤ a then .bad 41 s.size
 else if ch s a = 34 then valQ s a 34
 else if ch s a = 39 then valQ s a 39
 else .bad 40 a
theorem value_q (R:Nat) (s:ByteArray) (a:Nat) (q:UInt8) (hq:q = 34 ∨ q = 39) (w:World) (h:RA w R s a) (ha:a < s.size) (hs:s.size < 4294967281) (hc:ch s a = q.toNat) :
  Calls Tryz.prog 184 #[.pointer (some ⟨R,0,none⟩)] w (RzPost R s w (valQ s a q)):=by
 have hp:=peek_ok R s a w h ha
 rw [hc] at hp
 have hu:=upN_le [60,q] s (a + 1) (by omega)
 have cU:=fun w h=>upTo_any R s ⟨#[60,q]⟩ (a + 1) w h (by omega) hs (show 1 ≤ 2 by decide) (show 2 < 4294967281 by decide) (by intro b hb;rcases hq with rfl | rfl <;> (simp at hb;rcases hb with rfl | rfl <;> decide))
 have hz:=size_ext s (a + 1) (upN [60,q] s (a + 1)) hu.2
 have cP:=fun w=>plain_any (s.extract (a + 1) (upN [60,q] s (a + 1))) (a + 1) w (by omega) (by omega)
 have hE:(ByteArray.mk #[60,q]).data.toList = [60,q]:=rfl
 rw [hE] at cU
 unfold valQ
 generalize s.extract (a + 1) (upN [60,q] s (a + 1)) = v at *
 generalize upN [60,q] s (a + 1) = b at *
 rw [Int.natCast_add] at cP
 by_cases hb:s.size ≤ b
 ·obtain rfl:b = s.size:=by omega
  rw [if_pos hb]
  have cE:=fun w h=>expect_end R s q.toNat w h
  rcases hq with rfl | rfl
  all_goals
   go_enter Tryz.func184,Tryz.ntmps184
   go_wp2_with (first
    | (go_at_call 152;refine hp.mono ?_;clear hp;rintro e w1 ⟨rfl,hm1,h1⟩;have c1:=h1.h1;have f1:=h1.fz 1;have hA:RA (w1.setCell ⟨R,1,none⟩ (.int .i64 ((a:Int) + 1))) R s (a + 1):=h1.put _ (by omega);have c2:=hA.h1;have hm2:=Mv.set R w1 (.int .i64 ((a:Int) + 1)))
    | (go_at_call 146;refine (cU _ hA).mono ?_;clear cU;rintro e w2 ⟨rfl,hm3,h2⟩)
    | (go_at_call 150;refine (cE _ h2).mono ?_;rintro e w3 ⟨rfl,hm4⟩))
   exact ⟨rfl,((hm1.trans hm2).trans hm3).trans hm4,rfl⟩
 ·rw [if_neg hb]
  by_cases hd:ch s b = q.toNat
  ·rw [if_pos hd]
   have cE:=fun w h=>expect_ok R s b q.toNat w h (by omega) (by omega) hd
   generalize plainZ v (a + 1) = z at cP ⊢
   rcases z with ⟨_ | ⟨er,p⟩,t⟩
   all_goals
    simp only [PlainPost] at cP
    rcases hq with rfl | rfl
   all_goals
    go_enter Tryz.func184,Tryz.ntmps184
    go_wp2_with (first
     | (go_at_call 152;refine hp.mono ?_;clear hp;rintro e w1 ⟨rfl,hm1,h1⟩;have c1:=h1.h1;have f1:=h1.fz 1;have hA:RA (w1.setCell ⟨R,1,none⟩ (.int .i64 ((a:Int) + 1))) R s (a + 1):=h1.put _ (by omega);have c2:=hA.h1;have hm2:=Mv.set R w1 (.int .i64 ((a:Int) + 1)))
     | (go_at_call 146;refine (cU _ hA).mono ?_;clear cU;rintro e w2 ⟨rfl,hm3,h2⟩)
     | (go_at_call 150;refine (cE _ h2).mono ?_;rintro e w3 ⟨rfl,hm4,h3⟩)
     | (go_at_call 147;refine (cP _).mono ?_;rintro e w4 ⟨hb4,rfl⟩))
   all_goals first
    | (go_ret;exact ⟨(((hm1.trans hm2).trans hm3).trans hm4).trans (Mv.of hb4 h3.lt),rfl,h3.below hb4⟩)
    | exact ⟨rfl,(((hm1.trans hm2).trans hm3).trans hm4).trans (Mv.of hb4 h3.lt),rfl⟩
  ·rw [if_neg hd]
   have cE:=fun w h=>expect_no R s b q.toNat w h (by omega) hd
   rcases hq with rfl | rfl
   all_goals
    go_enter Tryz.func184,Tryz.ntmps184
    go_wp2_with (first
     | (go_at_call 152;refine hp.mono ?_;clear hp;rintro e w1 ⟨rfl,hm1,h1⟩;have c1:=h1.h1;have f1:=h1.fz 1;have hA:RA (w1.setCell ⟨R,1,none⟩ (.int .i64 ((a:Int) + 1))) R s (a + 1):=h1.put _ (by omega);have c2:=hA.h1;have hm2:=Mv.set R w1 (.int .i64 ((a:Int) + 1)))
     | (go_at_call 146;refine (cU _ hA).mono ?_;clear cU;rintro e w2 ⟨rfl,hm3,h2⟩)
     | (go_at_call 150;refine (cE _ h2).mono ?_;rintro e w3 ⟨rfl,hm4⟩))
    exact ⟨rfl,((hm1.trans hm2).trans hm3).trans hm4,rfl⟩
theorem value_any (R:Nat) (s:ByteArray) (a:Nat) (w:World) (h:RA w R s a) (ha:a ≤ s.size) (hs:s.size < 4294967281) :
  Calls Tryz.prog 184 #[.pointer (some ⟨R,0,none⟩)] w (RzPost R s w (valueZ s a)):=by
 unfold valueZ
 by_cases hlt:s.size ≤ a
 ·obtain rfl:a = s.size:=by omega
  rw [if_pos hlt]
  have hp:=peek_end R s w h
  go_enter Tryz.func184,Tryz.ntmps184
  go_wp2_with (go_at_call 152;refine hp.mono ?_;clear hp;rintro e w1 ⟨rfl,hm⟩)
  exact ⟨rfl,hm,rfl⟩
 rw [if_neg hlt]
 by_cases h1:ch s a = 34
 ·rw [if_pos h1]
  exact value_q R s a 34 (.inl rfl) w h (by omega) hs h1
 rw [if_neg h1]
 by_cases h2:ch s a = 39
 ·rw [if_pos h2]
  exact value_q R s a 39 (.inr rfl) w h (by omega) hs h2
 rw [if_neg h2]
 have hp:=peek_ok R s a w h (by omega)
 generalize ch s a = c at *
 have k1:((c:Int) != 34) = true:=bne_iff_ne.2 (by omega)
 have k2:((c:Int) != 39) = true:=bne_iff_ne.2 (by omega)
 go_enter Tryz.func184,Tryz.ntmps184
 go_wp2_with (first
  | (go_at_call 152;refine hp.mono ?_;clear hp;rintro e w1 ⟨rfl,hm1,h1⟩;have c1:=h1.h1)
  | (go_at_call 85;refine (giveUp_lit 40 40 a rfl _).mono ?_;rintro e w4 ⟨rfl,rfl⟩))
 exact ⟨rfl,hm1,rfl⟩
end Go.Proofs.YtchfphakhmifmabGreatDoor

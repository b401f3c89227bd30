import Derived.Test.YtchfphakhmifmabGreatDoorRef15
namespace Go.Proofs.YtchfphakhmifmabGreatDoor
set_option maxRecDepth 1000000
set_option maxHeartbeats 16000000
open Go.ChangeShapes Go.WideShapes Go.ChangeAt Go.RowKit
theorem hx_two (X:ByteArray) (h:hxB X ⟨#[35,120]⟩ = true):2 ≤ X.size ∧ hxB X ⟨#[35]⟩ = true:=by
 unfold hxB at h ⊢
 simp only [Bool.and_eq_true,decide_eq_true_eq] at h ⊢
 obtain ⟨h1,h2⟩:=h
 have h1:2 ≤ X.size:=h1
 have h2:X.extract 0 2 = ⟨#[35,120]⟩:=h2
 refine ⟨h1,show 1 ≤ X.size by omega,?_⟩
 show X.extract 0 1 = _
 have e:(X.extract 0 2).extract 0 1 = X.extract 0 1:=by
  have:=ext_ext X 0 2 0 1 h1 (by omega)
  simpa using this
 rw [← e,h2]
 decide
theorem rent_none (X:ByteArray) (hXs:X.size ≤ 9223372036854775806) (h0:¬ X.toList = kAmp) (h1:¬ X.toList = kLt) (h2:¬ X.toList = kGt) (h3:¬ X.toList = kQuot) (h4:¬ X.toList = kApos) (w:World):Calls Tryz.prog 158 #[.string X] w fun e w'=>e = .returned (.string (sOf (entR X))) ∧ Below w.heap.size w w':=by
 have q0:(([97,109,112]:List UInt8) == X.toList) = false:=by rw [beq_eq_false_iff_ne];exact fun e=>h0 e.symm
 have q1:(([108,116]:List UInt8) == X.toList) = false:=by rw [beq_eq_false_iff_ne];exact fun e=>h1 e.symm
 have q2:(([103,116]:List UInt8) == X.toList) = false:=by rw [beq_eq_false_iff_ne];exact fun e=>h2 e.symm
 have q3:(([113,117,111,116]:List UInt8) == X.toList) = false:=by rw [beq_eq_false_iff_ne];exact fun e=>h3 e.symm
 have q4:(([97,112,111,115]:List UInt8) == X.toList) = false:=by rw [beq_eq_false_iff_ne];exact fun e=>h4 e.symm
 have hn:nameB X.data.toList = none:=by
  rw [← ByteArray.toList_eq]
  unfold nameB
  rw [if_neg h0,if_neg h4,if_neg h2,if_neg h1,if_neg h3]
 have hb1:∀ w,Calls Tryz.prog 126 #[.string X,.string ⟨#[35,120]⟩] w fun e w'=>e = .returned (.bool (hxB X ⟨#[35,120]⟩)) ∧ w' = w:=fun w=>rbegins X _ w
 have hb2:∀ w,Calls Tryz.prog 126 #[.string X,.string ⟨#[35]⟩] w fun e w'=>e = .returned (.bool (hxB X ⟨#[35]⟩)) ∧ w' = w:=fun w=>rbegins X _ w
 have he:Hid (entR X = if hxB X ⟨#[35,120]⟩ = true then numR 16 ((lOf X).drop 2) else if hxB X ⟨#[35]⟩ = true then numR 10 ((lOf X).drop 1) else []):=by show _ = _;unfold entR;rw [hn]
 have hsz1:hxB X ⟨#[35,120]⟩ = true → 2 ≤ X.size ∧ hxB X ⟨#[35]⟩ = true:=hx_two X
 have hsz2:hxB X ⟨#[35]⟩ = true → 1 ≤ X.size:=fun h=>by unfold hxB at h;simp only [Bool.and_eq_true,decide_eq_true_eq] at h;exact h.1
 clear h0 h1 h2 h3 h4 hn
 cases hx1:hxB X ⟨#[35,120]⟩
 ·rw [hx1] at hb1
  cases hx2:hxB X ⟨#[35]⟩
  ·rw [hx2] at hb2
   have hg:Hid (entR X = []):=by show _ = _;rw [he.out,hx1,hx2];rfl
   clear hx1 hx2 hsz1 hsz2
   go_enter Tryz.func158,Tryz.ntmps158
   go_wp2_with fail
   refine wp_loop_rounds 6 ?_
   rw [rounds_succ]
   go_wp2_with (first | (go_at_call_of 126 (Value.string { data:=#[35,120] });refine (hb1 _).mono ?_;rintro e w1 ⟨rfl,hw1⟩;subst w1) | (go_at_call_of 126 (Value.string { data:=#[35] });refine (hb2 _).mono ?_;rintro e w1 ⟨rfl,hw1⟩;subst w1))
   rw [rounds_succ]
   go_wp2_with (first | (go_at_call_of 126 (Value.string { data:=#[35,120] });refine (hb1 _).mono ?_;rintro e w1 ⟨rfl,hw1⟩;subst w1) | (go_at_call_of 126 (Value.string { data:=#[35] });refine (hb2 _).mono ?_;rintro e w1 ⟨rfl,hw1⟩;subst w1))
   rw [rounds_succ]
   go_wp2_with (first | (go_at_call_of 126 (Value.string { data:=#[35,120] });refine (hb1 _).mono ?_;rintro e w1 ⟨rfl,hw1⟩;subst w1) | (go_at_call_of 126 (Value.string { data:=#[35] });refine (hb2 _).mono ?_;rintro e w1 ⟨rfl,hw1⟩;subst w1))
   rw [rounds_succ]
   go_wp2_with (first | (go_at_call_of 126 (Value.string { data:=#[35,120] });refine (hb1 _).mono ?_;rintro e w1 ⟨rfl,hw1⟩;subst w1) | (go_at_call_of 126 (Value.string { data:=#[35] });refine (hb2 _).mono ?_;rintro e w1 ⟨rfl,hw1⟩;subst w1))
   rw [rounds_succ]
   go_wp2_with (first | (go_at_call_of 126 (Value.string { data:=#[35,120] });refine (hb1 _).mono ?_;rintro e w1 ⟨rfl,hw1⟩;subst w1) | (go_at_call_of 126 (Value.string { data:=#[35] });refine (hb2 _).mono ?_;rintro e w1 ⟨rfl,hw1⟩;subst w1))
   rw [rounds_succ]
   go_wp2_with (first | (go_at_call_of 126 (Value.string { data:=#[35,120] });refine (hb1 _).mono ?_;rintro e w1 ⟨rfl,hw1⟩;subst w1) | (go_at_call_of 126 (Value.string { data:=#[35] });refine (hb2 _).mono ?_;rintro e w1 ⟨rfl,hw1⟩;subst w1))
   go_ret
   exact ⟨rsret (by rw [hg.out];rfl),rbel _ _⟩
  ·rw [hx2] at hb2
   have hz:=hsz2 hx2
   have he1:Hid (entR X = numR 10 ((lOf X).drop 1)):=by show _ = _;rw [he.out,hx1,hx2];rfl
   clear hx1 hx2 hsz1 hsz2
   by_cases hone:X.size = 1
   ·have e1:((X.size:Int) == 1) = true:=by simp;omega
    have hg:Hid (entR X = []):=by show _ = _;rw [he1.out];unfold numR;rw [if_pos (List.drop_eq_nil_of_le (by rw [lOf_length];omega))]
    have hone:Hid (X.size = 1):=hone
    go_enter Tryz.func158,Tryz.ntmps158
    go_wp2_with fail
    refine wp_loop_rounds 6 ?_
    rw [rounds_succ]
    go_wp2_with (first | (go_at_call_of 126 (Value.string { data:=#[35,120] });refine (hb1 _).mono ?_;rintro e w1 ⟨rfl,hw1⟩;subst w1) | (go_at_call_of 126 (Value.string { data:=#[35] });refine (hb2 _).mono ?_;rintro e w1 ⟨rfl,hw1⟩;subst w1))
    rw [rounds_succ]
    go_wp2_with (first | (go_at_call_of 126 (Value.string { data:=#[35,120] });refine (hb1 _).mono ?_;rintro e w1 ⟨rfl,hw1⟩;subst w1) | (go_at_call_of 126 (Value.string { data:=#[35] });refine (hb2 _).mono ?_;rintro e w1 ⟨rfl,hw1⟩;subst w1))
    rw [rounds_succ]
    go_wp2_with (first | (go_at_call_of 126 (Value.string { data:=#[35,120] });refine (hb1 _).mono ?_;rintro e w1 ⟨rfl,hw1⟩;subst w1) | (go_at_call_of 126 (Value.string { data:=#[35] });refine (hb2 _).mono ?_;rintro e w1 ⟨rfl,hw1⟩;subst w1))
    rw [rounds_succ]
    go_wp2_with (first | (go_at_call_of 126 (Value.string { data:=#[35,120] });refine (hb1 _).mono ?_;rintro e w1 ⟨rfl,hw1⟩;subst w1) | (go_at_call_of 126 (Value.string { data:=#[35] });refine (hb2 _).mono ?_;rintro e w1 ⟨rfl,hw1⟩;subst w1))
    rw [rounds_succ]
    go_wp2_with (first | (go_at_call_of 126 (Value.string { data:=#[35,120] });refine (hb1 _).mono ?_;rintro e w1 ⟨rfl,hw1⟩;subst w1) | (go_at_call_of 126 (Value.string { data:=#[35] });refine (hb2 _).mono ?_;rintro e w1 ⟨rfl,hw1⟩;subst w1))
    rw [rounds_succ]
    go_wp2_with (first | (go_at_call_of 126 (Value.string { data:=#[35,120] });refine (hb1 _).mono ?_;rintro e w1 ⟨rfl,hw1⟩;subst w1) | (go_at_call_of 126 (Value.string { data:=#[35] });refine (hb2 _).mono ?_;rintro e w1 ⟨rfl,hw1⟩;subst w1))
    go_ret
    exact ⟨rsret (by rw [hg.out];rfl),rbel _ _⟩
   have e1:((X.size:Int) == 1) = false:=by simp;omega
   go_enter Tryz.func158,Tryz.ntmps158
   go_wp2_with fail
   refine wp_loop_rounds 6 ?_
   rw [rounds_succ]
   go_wp2_with (first | (go_at_call_of 126 (Value.string { data:=#[35,120] });refine (hb1 _).mono ?_;rintro e w1 ⟨rfl,hw1⟩;subst w1) | (go_at_call_of 126 (Value.string { data:=#[35] });refine (hb2 _).mono ?_;rintro e w1 ⟨rfl,hw1⟩;subst w1))
   rw [rounds_succ]
   go_wp2_with (first | (go_at_call_of 126 (Value.string { data:=#[35,120] });refine (hb1 _).mono ?_;rintro e w1 ⟨rfl,hw1⟩;subst w1) | (go_at_call_of 126 (Value.string { data:=#[35] });refine (hb2 _).mono ?_;rintro e w1 ⟨rfl,hw1⟩;subst w1))
   rw [rounds_succ]
   go_wp2_with (first | (go_at_call_of 126 (Value.string { data:=#[35,120] });refine (hb1 _).mono ?_;rintro e w1 ⟨rfl,hw1⟩;subst w1) | (go_at_call_of 126 (Value.string { data:=#[35] });refine (hb2 _).mono ?_;rintro e w1 ⟨rfl,hw1⟩;subst w1))
   rw [rounds_succ]
   go_wp2_with (first | (go_at_call_of 126 (Value.string { data:=#[35,120] });refine (hb1 _).mono ?_;rintro e w1 ⟨rfl,hw1⟩;subst w1) | (go_at_call_of 126 (Value.string { data:=#[35] });refine (hb2 _).mono ?_;rintro e w1 ⟨rfl,hw1⟩;subst w1))
   rw [rounds_succ]
   go_wp2_with (first | (go_at_call_of 126 (Value.string { data:=#[35,120] });refine (hb1 _).mono ?_;rintro e w1 ⟨rfl,hw1⟩;subst w1) | (go_at_call_of 126 (Value.string { data:=#[35] });refine (hb2 _).mono ?_;rintro e w1 ⟨rfl,hw1⟩;subst w1))
   rw [rounds_succ]
   go_wp2_with (first | (go_at_call_of 126 (Value.string { data:=#[35,120] });refine (hb1 _).mono ?_;rintro e w1 ⟨rfl,hw1⟩;subst w1) | (go_at_call_of 126 (Value.string { data:=#[35] });refine (hb2 _).mono ?_;rintro e w1 ⟨rfl,hw1⟩;subst w1))
   go_loopw [9,10] (fun vn vi wr=>∃ (k:Nat) (m:Int),k ≤ X.size ∧ vi = .int .i64 (k:Int) ∧ vn = .int .i64 m ∧ 0 ≤ m ∧ m ≤ 2000000 ∧ Hid (1 ≤ k ∧ ∃ q,numF 10 ((lOf X).drop k) q = numF 10 ((lOf X).drop 1) 0 ∧ Rel q m) ∧ Below w.heap.size w wr) (fun _ vi _=>X.size - (intOf vi).toNat)
   case atStart=>exact ⟨1,0,by omega,rfl,rfl,by omega,by omega,⟨Nat.le_refl _,0,rfl,Or.inl ⟨rfl,by omega⟩⟩,rbel _ _⟩
   case round =>
    obtain ⟨k,m,hk,rfl,rfl,hm0,hm1,hq,HB⟩:=hrel
    by_cases hlt:k < X.size
    ·have d0:decide ((k:Int) < (X.size:Int)) = true:=by simp;omega
     obtain ⟨c,hc⟩:∃ c,Hid (c = ch X k):=⟨_,rfl⟩
     have ix:∀ w:World,(Instr.index 9 (.string X) (.int .i64 (k:Int))).run Tryz.prog w = .ok (.int .u8 (c:Int)) w:=fun w=>by rw [hc.out];exact nidx (w:=w) X k hlt .i64
     obtain ⟨hfk,q,hq1,hq2⟩:=hq.out
     rw [drop_ch X k hlt,← hc.out,numF_cons] at hq1
     have hdec:(∃ d,worth c = some d ∧ d < 10 ∧ wrD c = (d:Int)) ∨ (wrD c = -1 ∧ numF 10 ((lOf X).drop 1) 0 = none):=by
      unfold wrD
      cases hw:worth c with
      | none =>
       right
       rw [hw] at hq1
       refine ⟨?_,hq1.symm⟩
       unfold worth at hw
       split at hw
       ·cases hw
       ·rename_i h1;rw [if_neg h1]
      | some d =>
       rw [hw] at hq1
       simp only at hq1
       by_cases hd:d < 10
       ·left
        refine ⟨d,rfl,hd,?_⟩
        unfold worth at hw
        split at hw
        ·rename_i h1;cases hw;rw [if_pos h1];omega
        ·split at hw
         ·cases hw;omega
         ·split at hw
          ·cases hw;omega
          ·cases hw
       ·right
        rw [if_neg hd] at hq1
        refine ⟨?_,hq1.symm⟩
        unfold worth at hw
        split at hw
        ·cases hw;omega
        ·rename_i h1;rw [if_neg h1]
     have hW:∀ w,Calls Tryz.prog 176 #[.int .u8 (c:Int),.bool false] w fun e w'=>e = .returned (.int .i64 (wrD c)) ∧ w' = w:=fun w=>rworthD c w
     rcases hdec with ⟨d,hd1,hd2,hd3⟩ | ⟨hd3,hnone⟩
     ·rw [hd3] at hW
      rw [hd1] at hq1
      simp only [hd2,if_true] at hq1
      have hR:=hq2.step 10 d (by omega) hm1
      have hq':Hid (numF 10 ((lOf X).drop (k + 1)) (min (q * 10 + d) 1114112) = numF 10 ((lOf X).drop 1) 0):=hq1
      have hR':Hid (Rel (min (q * 10 + d) 1114112) (if 2000000 < m * 10 + d then 2000000 else m * 10 + d)):=hR
      have d1:decide ((d:Int) < 0) = false:=by simp
      clear hq1 hq2 hd1 hd3 hR hq
      by_cases hbig:2000000 < m * 10 + (d:Int)
      ·have d2:decide (2000000 < m * 10 + (d:Int)) = true:=by simp;omega
       have hR2:Hid (Rel (min (q * 10 + d) 1114112) 2000000):=by show Rel _ _;have:=hR'.out;rwa [if_pos hbig] at this
       go_wp2_with (go_at_call 176;refine (hW _).mono ?_;rintro e w1 ⟨rfl,hw1⟩;subst w1)
       go_roundw
       case rel=>exact ⟨k + 1,2000000,by omega,by go_num,rfl,by omega,by omega,⟨by omega,_,hq'.out,hR2.out⟩,HB⟩
       case measure=>simp [intOf];omega
      ·have d2:decide (2000000 < m * 10 + (d:Int)) = false:=by simp;omega
       have hR2:Hid (Rel (min (q * 10 + d) 1114112) (m * 10 + d)):=by show Rel _ _;have:=hR'.out;rwa [if_neg hbig] at this
       go_wp2_with (go_at_call 176;refine (hW _).mono ?_;rintro e w1 ⟨rfl,hw1⟩;subst w1)
       go_roundw
       case rel=>exact ⟨k + 1,m * 10 + d,by omega,by go_num,by go_num,by omega,by omega,⟨by omega,_,hq'.out,hR2.out⟩,HB⟩
       case measure=>simp [intOf];omega
     ·rw [hd3] at hW
      have hg:Hid (entR X = []):=by show _ = _;rw [he1.out];unfold numR;rw [hnone];split <;> rfl
      clear hq1 hq2 hnone hq
      go_wp2_with (go_at_call 176;refine (hW _).mono ?_;rintro e w1 ⟨rfl,hw1⟩;subst w1)
      go_ret
      exact ⟨rsret (by rw [hg.out];rfl),HB⟩
    ·obtain rfl:k = X.size:=by omega
     have d0:decide ((X.size:Int) < (X.size:Int)) = false:=by simp
     obtain ⟨hfk,q,hq1,hq2⟩:=hq.out
     have hnil:(lOf X).drop X.size = []:=List.drop_eq_nil_of_le (by rw [lOf_length];exact Nat.le_refl _)
     rw [hnil] at hq1
     have hq1:some q = numF 10 ((lOf X).drop 1) 0:=hq1
     have hx:=hq2.xml
     have hXm:=fun w=>rxml m w
     cases hxb:xmlB m
     ·rw [hxb] at hXm hx
      have hg:Hid (entR X = []):=by show _ = _;rw [he1.out];unfold numR;rw [← hq1];simp only [← hx,Bool.false_eq_true,if_false];split <;> rfl
      clear hq1 hq2 hx hxb hq hnil
      go_wp2_with (go_at_call 94;refine (hXm _).mono ?_;rintro e w1 ⟨rfl,hw1⟩;subst w1)
      go_ret
      exact ⟨rsret (by rw [hg.out];rfl),HB⟩
     ·have hmq:=hq2.eq hxb
      rw [hxb] at hXm hx
      have hE:=fun w=>rEncode m w
      have hg:Hid (entR X = encI m):=by
       show _ = _
       rw [he1.out,hmq,xml_good q hx.symm]
       unfold numR
       rw [← hq1]
       simp only [← hx,if_true]
       rw [if_neg (by intro h;have:=congrArg List.length h;rw [List.length_drop,lOf_length] at this;simp at this;omega)]
      clear hq1 hq2 hx hxb hmq hq hnil
      go_wp2_with (first | (go_at_call 94;refine (hXm _).mono ?_;rintro e w1 ⟨rfl,hw1⟩;subst w1) | (go_at_call 125;refine (hE _).mono ?_;rintro e w1 ⟨rfl,hb1⟩;have HB:=bdt HB hb1;clear hb1))
      go_ret
      exact ⟨rsret (by rw [hg.out]),HB⟩
 ·rw [hx1] at hb1
  obtain ⟨hz,hx2⟩:=hsz1 hx1
  rw [hx2] at hb2
  have he1:Hid (entR X = numR 16 ((lOf X).drop 2)):=by show _ = _;rw [he.out,hx1];rfl
  clear hx1 hx2 hsz1 hsz2
  by_cases htwo:X.size = 2
  ·have e1:((X.size:Int) == 2) = true:=by simp;omega
   have hg:Hid (entR X = []):=by show _ = _;rw [he1.out];unfold numR;rw [if_pos (List.drop_eq_nil_of_le (by rw [lOf_length];omega))]
   have htwo:Hid (X.size = 2):=htwo
   go_enter Tryz.func158,Tryz.ntmps158
   go_wp2_with fail
   refine wp_loop_rounds 6 ?_
   rw [rounds_succ]
   go_wp2_with (first | (go_at_call_of 126 (Value.string { data:=#[35,120] });refine (hb1 _).mono ?_;rintro e w1 ⟨rfl,hw1⟩;subst w1) | (go_at_call_of 126 (Value.string { data:=#[35] });refine (hb2 _).mono ?_;rintro e w1 ⟨rfl,hw1⟩;subst w1))
   rw [rounds_succ]
   go_wp2_with (first | (go_at_call_of 126 (Value.string { data:=#[35,120] });refine (hb1 _).mono ?_;rintro e w1 ⟨rfl,hw1⟩;subst w1) | (go_at_call_of 126 (Value.string { data:=#[35] });refine (hb2 _).mono ?_;rintro e w1 ⟨rfl,hw1⟩;subst w1))
   rw [rounds_succ]
   go_wp2_with (first | (go_at_call_of 126 (Value.string { data:=#[35,120] });refine (hb1 _).mono ?_;rintro e w1 ⟨rfl,hw1⟩;subst w1) | (go_at_call_of 126 (Value.string { data:=#[35] });refine (hb2 _).mono ?_;rintro e w1 ⟨rfl,hw1⟩;subst w1))
   rw [rounds_succ]
   go_wp2_with (first | (go_at_call_of 126 (Value.string { data:=#[35,120] });refine (hb1 _).mono ?_;rintro e w1 ⟨rfl,hw1⟩;subst w1) | (go_at_call_of 126 (Value.string { data:=#[35] });refine (hb2 _).mono ?_;rintro e w1 ⟨rfl,hw1⟩;subst w1))
   rw [rounds_succ]
   go_wp2_with (first | (go_at_call_of 126 (Value.string { data:=#[35,120] });refine (hb1 _).mono ?_;rintro e w1 ⟨rfl,hw1⟩;subst w1) | (go_at_call_of 126 (Value.string { data:=#[35] });refine (hb2 _).mono ?_;rintro e w1 ⟨rfl,hw1⟩;subst w1))
   rw [rounds_succ]
   go_wp2_with (first | (go_at_call_of 126 (Value.string { data:=#[35,120] });refine (hb1 _).mono ?_;rintro e w1 ⟨rfl,hw1⟩;subst w1) | (go_at_call_of 126 (Value.string { data:=#[35] });refine (hb2 _).mono ?_;rintro e w1 ⟨rfl,hw1⟩;subst w1))
   go_ret
   exact ⟨rsret (by rw [hg.out];rfl),rbel _ _⟩
  ·have e1:((X.size:Int) == 2) = false:=by simp;omega
   go_enter Tryz.func158,Tryz.ntmps158
   go_wp2_with fail
   refine wp_loop_rounds 6 ?_
   rw [rounds_succ]
   go_wp2_with (first | (go_at_call_of 126 (Value.string { data:=#[35,120] });refine (hb1 _).mono ?_;rintro e w1 ⟨rfl,hw1⟩;subst w1) | (go_at_call_of 126 (Value.string { data:=#[35] });refine (hb2 _).mono ?_;rintro e w1 ⟨rfl,hw1⟩;subst w1))
   rw [rounds_succ]
   go_wp2_with (first | (go_at_call_of 126 (Value.string { data:=#[35,120] });refine (hb1 _).mono ?_;rintro e w1 ⟨rfl,hw1⟩;subst w1) | (go_at_call_of 126 (Value.string { data:=#[35] });refine (hb2 _).mono ?_;rintro e w1 ⟨rfl,hw1⟩;subst w1))
   rw [rounds_succ]
   go_wp2_with (first | (go_at_call_of 126 (Value.string { data:=#[35,120] });refine (hb1 _).mono ?_;rintro e w1 ⟨rfl,hw1⟩;subst w1) | (go_at_call_of 126 (Value.string { data:=#[35] });refine (hb2 _).mono ?_;rintro e w1 ⟨rfl,hw1⟩;subst w1))
   rw [rounds_succ]
   go_wp2_with (first | (go_at_call_of 126 (Value.string { data:=#[35,120] });refine (hb1 _).mono ?_;rintro e w1 ⟨rfl,hw1⟩;subst w1) | (go_at_call_of 126 (Value.string { data:=#[35] });refine (hb2 _).mono ?_;rintro e w1 ⟨rfl,hw1⟩;subst w1))
   rw [rounds_succ]
   go_wp2_with (first | (go_at_call_of 126 (Value.string { data:=#[35,120] });refine (hb1 _).mono ?_;rintro e w1 ⟨rfl,hw1⟩;subst w1) | (go_at_call_of 126 (Value.string { data:=#[35] });refine (hb2 _).mono ?_;rintro e w1 ⟨rfl,hw1⟩;subst w1))
   rw [rounds_succ]
   go_wp2_with (first | (go_at_call_of 126 (Value.string { data:=#[35,120] });refine (hb1 _).mono ?_;rintro e w1 ⟨rfl,hw1⟩;subst w1) | (go_at_call_of 126 (Value.string { data:=#[35] });refine (hb2 _).mono ?_;rintro e w1 ⟨rfl,hw1⟩;subst w1))
   go_loopw [9,10] (fun vn vi wr=>∃ (k:Nat) (m:Int),k ≤ X.size ∧ vi = .int .i64 (k:Int) ∧ vn = .int .i64 m ∧ 0 ≤ m ∧ m ≤ 2000000 ∧ Hid (2 ≤ k ∧ ∃ q,numF 16 ((lOf X).drop k) q = numF 16 ((lOf X).drop 2) 0 ∧ Rel q m) ∧ Below w.heap.size w wr) (fun _ vi _=>X.size - (intOf vi).toNat)
   case atStart=>exact ⟨2,0,by omega,rfl,rfl,by omega,by omega,⟨Nat.le_refl _,0,rfl,Or.inl ⟨rfl,by omega⟩⟩,rbel _ _⟩
   case round =>
    obtain ⟨k,m,hk,rfl,rfl,hm0,hm1,hq,HB⟩:=hrel
    by_cases hlt:k < X.size
    ·have d0:decide ((k:Int) < (X.size:Int)) = true:=by simp;omega
     obtain ⟨c,hc⟩:∃ c,Hid (c = ch X k):=⟨_,rfl⟩
     have ix:∀ w:World,(Instr.index 9 (.string X) (.int .i64 (k:Int))).run Tryz.prog w = .ok (.int .u8 (c:Int)) w:=fun w=>by rw [hc.out];exact nidx (w:=w) X k hlt .i64
     obtain ⟨hfk,q,hq1,hq2⟩:=hq.out
     rw [drop_ch X k hlt,← hc.out,numF_cons] at hq1
     have hdec:(∃ d,worth c = some d ∧ d < 16 ∧ wrI c = (d:Int)) ∨ (wrI c = -1 ∧ numF 16 ((lOf X).drop 2) 0 = none):=by
      cases hw:worth c with
      | none=>right;rw [hw] at hq1;exact ⟨wrI_none hw,hq1.symm⟩
      | some d=>left;exact ⟨d,rfl,worth_lt hw,wrI_some hw⟩
     have hW:∀ w,Calls Tryz.prog 176 #[.int .u8 (c:Int),.bool true] w fun e w'=>e = .returned (.int .i64 (wrI c)) ∧ w' = w:=fun w=>rworth c (by rw [hc.out];exact ch_lt X k) w
     rcases hdec with ⟨d,hd1,hd2,hd3⟩ | ⟨hd3,hnone⟩
     ·rw [hd3] at hW
      rw [hd1] at hq1
      simp only [hd2,if_true] at hq1
      have hR:=hq2.step 16 d (by omega) hm1
      have hq':Hid (numF 16 ((lOf X).drop (k + 1)) (min (q * 16 + d) 1114112) = numF 16 ((lOf X).drop 2) 0):=hq1
      have hR':Hid (Rel (min (q * 16 + d) 1114112) (if 2000000 < m * 16 + d then 2000000 else m * 16 + d)):=hR
      have d1:decide ((d:Int) < 0) = false:=by simp
      clear hq1 hq2 hd1 hd3 hR hq
      by_cases hbig:2000000 < m * 16 + (d:Int)
      ·have d2:decide (2000000 < m * 16 + (d:Int)) = true:=by simp;omega
       have hR2:Hid (Rel (min (q * 16 + d) 1114112) 2000000):=by show Rel _ _;have:=hR'.out;rwa [if_pos hbig] at this
       go_wp2_with (go_at_call 176;refine (hW _).mono ?_;rintro e w1 ⟨rfl,hw1⟩;subst w1)
       go_roundw
       case rel=>exact ⟨k + 1,2000000,by omega,by go_num,rfl,by omega,by omega,⟨by omega,_,hq'.out,hR2.out⟩,HB⟩
       case measure=>simp [intOf];omega
      ·have d2:decide (2000000 < m * 16 + (d:Int)) = false:=by simp;omega
       have hR2:Hid (Rel (min (q * 16 + d) 1114112) (m * 16 + d)):=by show Rel _ _;have:=hR'.out;rwa [if_neg hbig] at this
       go_wp2_with (go_at_call 176;refine (hW _).mono ?_;rintro e w1 ⟨rfl,hw1⟩;subst w1)
       go_roundw
       case rel=>exact ⟨k + 1,m * 16 + d,by omega,by go_num,by go_num,by omega,by omega,⟨by omega,_,hq'.out,hR2.out⟩,HB⟩
       case measure=>simp [intOf];omega
     ·rw [hd3] at hW
      have hg:Hid (entR X = []):=by show _ = _;rw [he1.out];unfold numR;rw [hnone];split <;> rfl
      clear hq1 hq2 hnone hq
      go_wp2_with (go_at_call 176;refine (hW _).mono ?_;rintro e w1 ⟨rfl,hw1⟩;subst w1)
      go_ret
      exact ⟨rsret (by rw [hg.out];rfl),HB⟩
    ·obtain rfl:k = X.size:=by omega
     have d0:decide ((X.size:Int) < (X.size:Int)) = false:=by simp
     obtain ⟨hfk,q,hq1,hq2⟩:=hq.out
     have hnil:(lOf X).drop X.size = []:=List.drop_eq_nil_of_le (by rw [lOf_length];exact Nat.le_refl _)
     rw [hnil] at hq1
     have hq1:some q = numF 16 ((lOf X).drop 2) 0:=hq1
     have hx:=hq2.xml
     have hXm:=fun w=>rxml m w
     cases hxb:xmlB m
     ·rw [hxb] at hXm hx
      have hg:Hid (entR X = []):=by show _ = _;rw [he1.out];unfold numR;rw [← hq1];simp only [← hx,Bool.false_eq_true,if_false];split <;> rfl
      clear hq1 hq2 hx hxb hq hnil
      go_wp2_with (go_at_call 94;refine (hXm _).mono ?_;rintro e w1 ⟨rfl,hw1⟩;subst w1)
      go_ret
      exact ⟨rsret (by rw [hg.out];rfl),HB⟩
     ·have hmq:=hq2.eq hxb
      rw [hxb] at hXm hx
      have hE:=fun w=>rEncode m w
      have hg:Hid (entR X = encI m):=by
       show _ = _
       rw [he1.out,hmq,xml_good q hx.symm]
       unfold numR
       rw [← hq1]
       simp only [← hx,if_true]
       rw [if_neg (by intro h;have:=congrArg List.length h;rw [List.length_drop,lOf_length] at this;simp at this;omega)]
      clear hq1 hq2 hx hxb hmq hq hnil
      go_wp2_with (first | (go_at_call 94;refine (hXm _).mono ?_;rintro e w1 ⟨rfl,hw1⟩;subst w1) | (go_at_call 125;refine (hE _).mono ?_;rintro e w1 ⟨rfl,hb1⟩;have HB:=bdt HB hb1;clear hb1))
      go_ret
      exact ⟨rsret (by rw [hg.out]),HB⟩
theorem rentity (X:ByteArray) (hXs:X.size ≤ 9223372036854775806) (w:World):Calls Tryz.prog 158 #[.string X] w fun e w'=>e = .returned (.string (sOf (entR X))) ∧ Below w.heap.size w w':=by
 by_cases h0:X.toList = kAmp
 ·exact rent_kAmp X h0 w
 by_cases h1:X.toList = kLt
 ·exact rent_kLt X h1 w
 by_cases h2:X.toList = kGt
 ·exact rent_kGt X h2 w
 by_cases h3:X.toList = kQuot
 ·exact rent_kQuot X h3 w
 by_cases h4:X.toList = kApos
 ·exact rent_kApos X h4 w
 exact rent_none X hXs h0 h1 h2 h3 h4 w
end Go.Proofs.YtchfphakhmifmabGreatDoor

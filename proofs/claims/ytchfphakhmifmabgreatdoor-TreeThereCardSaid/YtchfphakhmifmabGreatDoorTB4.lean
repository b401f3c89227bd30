import Derived.Test.YtchfphakhmifmabGreatDoorTB2
import Derived.Test.YtchfphakhmifmabGreatDoorTB3
import Derived.Test.YtchfphakhmifmabGreatDoorTQp
namespace Go.Proofs.YtchfphakhmifmabGreatDoor
set_option maxRecDepth 1000000
set_option maxHeartbeats 16000000
open Go.Lib Go
theorem fault_front (s:ByteArray) (n:Nat):∀ a,s.size - a < n → a ≤ s.size → (faultF xmlB s (s.size + 1) a).1 ≠ 0 → a ≤ (faultF xmlB s (s.size + 1) a).2 ∧ (faultF xmlB s (s.size + 1) a).2 ≤ s.size ∧ VX (((lOf s).drop a).take ((faultF xmlB s (s.size + 1) a).2 - a)):=by
 induction n with
 | zero=>intro a h;omega
 | succ n ih =>
  intro a hn ha hf
  by_cases h:s.size ≤ a
  ·rw [faultF,if_pos h] at hf
   exact absurd rfl hf
  ·have hz:(s.extract a s.size).size = s.size - a:=size_ext s a s.size (Nat.le_refl _)
   rw [fault_step xmlB s a (by omega)] at hf ⊢
   by_cases h2:(seqN (s.extract a s.size)).2 = 0
   ·rw [if_pos h2]
    refine ⟨Nat.le_refl _,by dsimp only;omega,?_⟩
    rw [Nat.sub_self,List.take_zero]
    exact vx_nil
   ·rw [if_neg h2] at hf ⊢
    by_cases hx:xmlB ((seqN (s.extract a s.size)).1:Int) = true
    ·rw [if_pos hx] at hf ⊢
     have hd:=seq_dec (by omega) h2
     have hle:=seqN_size_le (s.extract a s.size)
     obtain ⟨i1,i2,i3⟩:=ih (a + (seqN (s.extract a s.size)).2) (by omega) (by omega) hf
     rw [lof_from] at hd
     refine ⟨by omega,i2,?_⟩
     have hel:(encN (seqN (s.extract a s.size)).1).length = (seqN (s.extract a s.size)).2:=by
      have h3:=congrArg List.length hd
      simp only [List.length_append,List.length_drop,lOf_length] at h3
      omega
     rw [hd,List.take_append,hel,List.take_of_length_le (by omega),List.drop_drop]
     refine vx_app (vx_enc hx) ?_
     have e:(faultF xmlB s (s.size + 1) (a + (seqN (s.extract a s.size)).2)).2 - a - (seqN (s.extract a s.size)).2 = (faultF xmlB s (s.size + 1) (a + (seqN (s.extract a s.size)).2)).2 - (a + (seqN (s.extract a s.size)).2):=by omega
     rw [e]
     exact i3
    ·rw [if_neg hx]
     refine ⟨Nat.le_refl _,by dsimp only;omega,?_⟩
     rw [Nat.sub_self,List.take_zero]
     exact vx_nil
theorem chars_front {s:ByteArray} (h:(faultN xmlB s).1 ≠ 0):(faultN xmlB s).2 ≤ s.size ∧ VX (lOf (s.extract 0 (faultN xmlB s).2)):=by
 obtain ⟨h1,h2,h3⟩:=fault_front s (s.size + 1) 0 (by omega) (Nat.zero_le _) h
 refine ⟨h2,?_⟩
 rw [lOf_extract]
 exact h3
theorem escL_len2 (attr:Bool) (v:ByteArray):(escL attr (lOf v)).length ≤ 6 * v.size:=by
 have:=escB_size attr v
 unfold escB at this
 rwa [sOf_size] at this
def costA:List Att → Nat
 | []=>0
 | a :: l=>(4 + a.nm.size + 6 * a.vl.size) + costA l
def costE (e:El):Nat:=6 + 2 * e.nm.size + costA e.ats + 6 * e.tx.size
def costL:List El → Nat
 | []=>0
 | e :: r=>costE e + costL r
def costS:List ByteArray → Nat
 | []=>0
 | nm :: st=>(3 + nm.size) + costS st
theorem costS_app:∀ a b:List ByteArray,costS (a ++ b) = costS a + costS b
 | [],b=>by simp [costS]
 | x :: a,b=>by rw [List.cons_append,costS,costS,costS_app a b];omega
theorem flat_closes:∀ st:List ByteArray,(flatL (st.map pcC)).length = costS st
 | []=>rfl
 | nm :: st=>by
  rw [List.map_cons,flatL_cons,List.length_append,flat_closes st,costS]
  have:lOf (wrB (pcC nm).k.toNat (pcC nm).nm (pcC nm).vl) = 60 :: 47 :: (lOf nm ++ [62]):=lw4 _ _
  rw [this]
  simp only [List.length_cons,List.length_append,List.length_nil,lOf_length]
  omega
theorem flat_attrs:∀ l:List Att,(flatL (l.map pcA)).length ≤ costA l
 | []=>Nat.le_refl _
 | a :: l=>by
  have ih:=flat_attrs l
  rw [List.map_cons,flatL_cons,List.length_append,costA]
  have:lOf (wrB (pcA a).k.toNat (pcA a).nm (pcA a).vl) = 32 :: (lOf a.nm ++ 61 :: 34 :: (escL true (lOf a.vl) ++ [34])):=lw1 _ _
  rw [this]
  have h2:=escL_len2 true a.vl
  simp only [List.length_cons,List.length_append,List.length_nil,lOf_length]
  omega
theorem flat_put (e:El) (h:Bool):(flatL (putP e h)).length + (if leaf e h = true then 0 else 3 + e.nm.size) ≤ costE e:=by
 have ha:=flat_attrs e.ats
 have e0:lOf (wrB (pcO e.nm).k.toNat (pcO e.nm).nm (pcO e.nm).vl) = 60 :: lOf e.nm:=lw0 _ _
 unfold putP costE
 rw [flatL_cons,flatL_app,e0]
 simp only [List.length_cons,List.length_append,lOf_length]
 split
 ·have e3:lOf (wrB pcM.k.toNat pcM.nm pcM.vl) = [47,62]:=lw3 _ _
  rw [flatL_cons,e3]
  show _ + (_ + 2) + 0 ≤ _
  omega
 ·have e2:lOf (wrB pcE.k.toNat pcE.nm pcE.vl) = [62]:=lw2 _ _
  rw [flatL_cons,e2]
  split
  ·show _ + (_ + 1) + _ ≤ _
   omega
  ·have e5:lOf (wrB (pcT e.tx).k.toNat (pcT e.tx).nm (pcT e.tx).vl) = escL false (lOf e.tx):=lw5 _ _
   have h2:=escL_len2 false e.tx
   rw [flatL_cons,e5]
   have e6:flatL [] = []:=rfl
   rw [e6,List.append_nil,List.length_append]
   simp only [List.length_cons,List.length_nil]
   omega
theorem flat_pcs:∀ (r:List El) (st:List ByteArray),(flatL (pcsF r st)).length ≤ costS st + costL r
 | [],st=>by
  unfold pcsF shutL
  rw [Nat.sub_zero,List.take_length,flat_closes]
  exact Nat.le_add_right _ _
 | e :: r,st=>by
  have hp:=flat_put e (holdsB e r)
  have ih:=flat_pcs r (putS e (holdsB e r) (cutS st (e.d - 1).toNat))
  have hs:(flatL (shutL st (e.d - 1).toNat)).length + costS (cutS st (e.d - 1).toNat) = costS st:=by
   unfold shutL cutS
   rw [flat_closes,← costS_app,List.take_append_drop]
  have hq:costS (putS e (holdsB e r) (cutS st (e.d - 1).toNat)) = costS (cutS st (e.d - 1).toNat) + (if leaf e (holdsB e r) = true then 0 else 3 + e.nm.size):=by
   unfold putS
   split
   ·rfl
   ·rw [costS];omega
  rw [pcsF,flatL_app,flatL_app,List.length_append,List.length_append,costL]
  omega
theorem costA_le:∀ l:List Att,(∀ a ∈ l,a.nm.size ≤ 14 ∧ a.vl.size ≤ 40) → costA l ≤ l.length * 258
 | [],_=>Nat.le_refl _
 | a :: l,h=>by
  have ih:=costA_le l fun x hx=>h x (by simp [hx])
  have:=h a (by simp)
  rw [costA,List.length_cons]
  omega
theorem costL_le:∀ r:List El,(∀ e ∈ r,e.nm.size ≤ 13 ∧ e.tx.size ≤ 40 ∧ e.ats.length ≤ 24 ∧ ∀ a ∈ e.ats,a.nm.size ≤ 14 ∧ a.vl.size ≤ 40) → costL r ≤ r.length * 6464
 | [],_=>Nat.le_refl _
 | e :: r,h=>by
  have ih:=costL_le r fun x hx=>h x (by simp [hx])
  obtain ⟨h1,h2,h3,h4⟩:=h e (by simp)
  have:=costA_le e.ats h4
  rw [costL,List.length_cons]
  unfold costE
  omega
theorem made_len {es:List El} (hl:es.length ≤ 61) (h:∀ e ∈ es,e.nm.size ≤ 13 ∧ e.tx.size ≤ 40 ∧ e.ats.length ≤ 24 ∧ ∀ a ∈ e.ats,a.nm.size ≤ 14 ∧ a.vl.size ≤ 40):(flatL (pcsF es [])).length ≤ 400000:=by
 have h1:=flat_pcs es []
 have h2:=costL_le es h
 have:costS [] = 0:=rfl
 omega
theorem atE_of:∀ (r l:List Att),(∀ (i:Nat) (a:Att),r[i]? = some a → xmlNameB a.nm = true ∧ chrB a.vl = true ∧ hasA (l ++ r.take i) a.nm = false) → atE l r = 0
 | [],_,_=>rfl
 | a :: r,l,h=>by
  obtain ⟨h1,h2,h3⟩:=h 0 a rfl
  rw [List.take_zero,List.append_nil] at h3
  rw [atE,if_pos ⟨h1,h2⟩,if_neg (by rw [h3];decide)]
  refine atE_of r (l ++ [a]) fun i b hb=>?_
  obtain ⟨g1,g2,g3⟩:=h (i + 1) b hb
  refine ⟨g1,g2,?_⟩
  rw [List.append_assoc]
  exact g3
theorem hasA_no {l:List Att} {nm:ByteArray} (h:∀ a ∈ l,a.nm ≠ nm):hasA l nm = false:=by
 unfold hasA
 rw [List.any_eq_false]
 intro a ha
 simpa using h a ha
theorem root_ok:xmlNameB ⟨#[114,111,111,116]⟩ = true:=by kernel_rfl
theorem valZ_vx (s:ByteArray):VX (lOf (valZ s)):=by
 unfold valZ
 split
 ·exact vx_nil
 ·by_cases h:(faultN xmlB s).1 = 0
  ·rw [cutZ_no (.inl h)]
   exact (chars_iff s).1 h
  ·obtain ⟨h1,h2⟩:=chars_front h
   rw [cutZ_yes h h1]
   exact h2
theorem NmL.small {t:ByteArray} (h:NmL t):t.size ≤ 13:=by
 obtain ⟨s,j,hj,rfl⟩:=h
 rw [sOf_size]
 have:=nameL_len s j
 omega
theorem VlL.vx {t:ByteArray} (h:VlL t):VX (lOf t):=by
 obtain ⟨s,rfl⟩:=h
 exact valZ_vx s
theorem VlL.small {t:ByteArray} (h:VlL t):t.size ≤ 40:=by
 obtain ⟨s,rfl⟩:=h
 exact valZ_size s
theorem first_ne {i q:Nat} {s1 s2:ByteArray} (hi:i < 24) (hq:q < 24) (h:sOf [97 + i] ++ s1 = sOf [97 + q] ++ s2):i = q:=by
 have h2:=congrArg lOf h
 rw [lOf_append,lOf_append,lOf_sOf _ (fun b hb=>by rw [List.mem_singleton] at hb;omega),lOf_sOf _ (fun b hb=>by rw [List.mem_singleton] at hb;omega)] at h2
 have h3:(97 + i) :: lOf s1 = (97 + q) :: lOf s2:=h2
 injection h3 with h4 _
 omega
theorem MOk.atE {e:El} (h:MOk e):atE [] e.ats = 0:=by
 refine atE_of e.ats [] fun i a ha=>?_
 obtain ⟨s1,hn,hs,hv⟩:=h.at_ i a ha
 have hi:i < 24:=by have:=(List.getElem?_eq_some_iff.1 ha).1;have:=h.n;omega
 refine ⟨?_,vx_chr hv.vx,?_⟩
 ·obtain ⟨s,j,_,rfl⟩:=hs
  rw [hn,← sOf_append]
  exact attL_ok s j i hi
 ·rw [List.nil_append]
  refine hasA_no fun b hb hbn=>?_
  obtain ⟨k,hk,e2⟩:=List.mem_take_iff_getElem.1 hb
  have hkl:k < e.ats.length:=by omega
  obtain ⟨s2,hn2,-,-⟩:=h.at_ k b (by rw [List.getElem?_eq_getElem hkl,e2])
  have hk24:k < 24:=by have:=h.n;omega
  have:=first_ne hk24 hi (by rw [← hn2,← hn];exact hbn)
  omega
theorem MOk.gd {e:El} (h:MOk e) (h1:1 ≤ e.d) (h2:e.d ≤ 16):Gd e:=by
 refine ⟨?_,h.n,h.atE,h.tx.vx,h1,h2⟩
 rcases h.nm with ⟨s,j,_,e1⟩ | e1
 ·rw [e1];exact nameL_ok s j
 ·rw [e1];exact root_ok
theorem MOk.small {e:El} (h:MOk e):e.nm.size ≤ 13 ∧ e.tx.size ≤ 40 ∧ e.ats.length ≤ 24 ∧ ∀ a ∈ e.ats,a.nm.size ≤ 14 ∧ a.vl.size ≤ 40:=by
 refine ⟨?_,h.tx.small,h.n,fun a ha=>?_⟩
 ·rcases h.nm with e1 | e1
  ·exact e1.small
  ·rw [e1];decide
 ·obtain ⟨i,hi,e2⟩:=List.getElem_of_mem ha
  obtain ⟨s1,hn,hs,hv⟩:=h.at_ i a (by rw [List.getElem?_eq_getElem hi,e2])
  refine ⟨?_,hv.small⟩
  rw [hn,ByteArray.size_append,sOf_size]
  have:=hs.small
  simp only [List.length_cons,List.length_nil]
  omega
theorem Dep.dok {es:List El} (h:Dep es):DOk (es.map El.d):=by
 refine ⟨fun i a b ha hb=>?_,fun a ha=>?_⟩
 ·rw [List.getElem?_map] at ha hb
  obtain ⟨x,hx,rfl⟩:=Option.map_eq_some_iff.1 ha
  obtain ⟨y,hy,rfl⟩:=Option.map_eq_some_iff.1 hb
  have:=h.s i x y hx hy
  exact ⟨this.2,this.1⟩
 ·rw [List.getElem?_map] at ha
  obtain ⟨x,hx,rfl⟩:=Option.map_eq_some_iff.1 ha
  exact h.z x hx
theorem made_chk {es:List El} (hl:es.length ≤ 61) (hne:es ≠ []) (hd:Dep es) (h6:∀ e ∈ es,1 ≤ e.d ∧ e.d ≤ 16) (hm:∀ e ∈ es,MOk e):chkZ es = (0,0):=by
 unfold chkZ
 rw [if_neg hne]
 exact chkF_of es [] 0 (fun e he=>(hm e he).gd (h6 e he).1 (h6 e he).2) hd.dok (fun _=>rfl) (fun a ha=>by cases ha) (by rw [List.nil_append];omega)
theorem made_short {es:List El} (hl:es.length ≤ 61) (hm:∀ e ∈ es,MOk e):(flatL (pcsF es [])).length ≤ 400000:=made_len hl fun e he=>(hm e he).small
open Go.ChangeShapes Go.WideShapes Go.ChangeAt Go.RowKit
abbrev sBe:ByteArray:=⟨#[32,60,33,45,45,32,120,32,45,45,62,10]⟩
abbrev sX:ByteArray:=⟨#[120]⟩
theorem Hid.mkI {p:Prop} (h:p):Hid p:=h
def PrsAt (w:World) (s:ByteArray) (es:List El) (er at_:Nat):Prop:=∀ W,Below w.heap.size w W → Calls Tryz.prog 10 #[.string s] W fun e w'=>∃ p c,e = .returned (.tuple #[.slice p es.length c,.int .i64 (er:Int),.int .i64 (at_:Int)]) ∧ Below w.heap.size w w' ∧ EC w' p w'.heap.size es ∧ Below W.heap.size W w'
def PrtAt (w:World) (es:List El) (T:ByteArray) (er at_:Nat):Prop:=∀ W p c,Below w.heap.size w W → EC W p W.heap.size es → Calls Tryz.prog 19 #[.slice p es.length c] W fun e w'=>e = .returned (.tuple #[.string T,.int .i64 (er:Int),.int .i64 (at_:Int)]) ∧ Below w.heap.size w w' ∧ Below W.heap.size W w'
def SamAt (w:World) (l m:List El) (b:Bool):Prop:=∀ W pa pb ca cb,Below w.heap.size w W → ERow W pa W.heap.size l → ERow W pb W.heap.size m → Calls Tryz.prog 20 #[.slice pa l.length ca,.slice pb m.length cb] W fun e w'=>e = .returned (.bool b) ∧ Below w.heap.size w w' ∧ Below W.heap.size W w'
def RefAt (w:World) (s:ByteArray) (er at_:Nat):Prop:=∀ W,Below w.heap.size w W → Calls Tryz.prog 11 #[.string s] W fun e w'=>∃ v,e = .returned (.tuple #[v,.int .i64 (er:Int),.int .i64 (at_:Int)]) ∧ Below w.heap.size w w'
def FixAt (w:World):Prop:=Calls Tryz.prog 7 #[] w fun e w'=>e = .returned (.bool true) ∧ Below w.heap.size w w'
def TrueAt (w:World) (e:Ending) (w':World):Prop:=e = .returned (.bool true) ∧ Below w.heap.size w w'
theorem inum_any (e:Int) (w:World):Calls Tryz.prog 12 #[.int .i64 e] w fun r w'=>r = .returned (.int .i64 e) ∧ w' = w:=by
 go_enter Tryz.func12,Tryz.ntmps12
 go_wp2_with fail
 go_ret
 exact ⟨rfl,rfl⟩
theorem int_ne0 {n:Nat} (h:n ≠ 0):((n:Int) != 0) = true:=by simp;omega
theorem again_bad (s:ByteArray) (w:World) (er at_:Nat) (h0:er ≠ 0) (cF:FixAt w) (cR:RefAt w s er at_) (cP:PrsAt w s [] er at_):Calls Tryz.prog 16 #[.string s] w (TrueAt w):=by
 have z1:((er:Int) == 0) = false:=beq_eq_false_iff_ne.2 (by omega)
 have z2:=int_ne0 h0
 replace cR:=Hid.mkI cR
 replace cP:=Hid.mkI cP
 clear h0
 go_enter Tryz.func16,Tryz.ntmps16
 go_wp2_with fail
 refine Calls.mono cF ?_
 rintro _ w1 ⟨rfl,hb1⟩
 go_wp2_with fail
 refine (cR.out w1 hb1).mono ?_
 rintro _ w2 ⟨v,rfl,hb2⟩
 go_wp2_with fail
 refine (cP.out w2 hb2).mono ?_
 rintro _ w3 ⟨p,c,rfl,hb3,-,-⟩
 clear cF cR cP hb1 hb2
 go_wp2_with (go_at_call 12;refine (inum_any _ _).mono ?_;rintro _ _ ⟨rfl,rfl⟩)
 go_ret
 exact ⟨rfl,hb3⟩
theorem again_long (s:ByteArray) (w:World) (es:List El) (at_:Nat) (cF:FixAt w) (cR:RefAt w s 0 at_) (cP:PrsAt w s es 0 at_) (cQ:PrtAt w es ⟨#[]⟩ 45 es.length):Calls Tryz.prog 16 #[.string s] w (TrueAt w):=by
 have b1:((es.length:Int) == (es.length:Int)) = true:=by simp
 replace cR:=Hid.mkI cR
 replace cP:=Hid.mkI cP
 replace cQ:=Hid.mkI cQ
 go_enter Tryz.func16,Tryz.ntmps16
 go_wp2_with fail
 refine Calls.mono cF ?_
 rintro _ w1 ⟨rfl,hb1⟩
 go_wp2_with fail
 refine (cR.out w1 hb1).mono ?_
 rintro _ w2 ⟨v,rfl,hb2⟩
 go_wp2_with fail
 refine (cP.out w2 hb2).mono ?_
 rintro _ w3 ⟨p,c,rfl,hb3,hE,-⟩
 clear cF cR cP hb1 hb2
 go_wp2_with (first
  | (go_at_call 12;refine (inum_any _ _).mono ?_;rintro _ _ ⟨rfl,rfl⟩)
  | (go_at_call 19;refine (cQ.out _ p c hb3 hE).mono ?_;rintro _ w4 ⟨rfl,hb4,-⟩))
 go_ret
 exact ⟨rfl,hb4⟩
theorem again_back (s:ByteArray) (w:World) (es es':List El) (t:ByteArray) (at_:Nat) (cF:FixAt w) (cR:RefAt w s 0 at_) (cP:PrsAt w s es 0 at_) (cQ:PrtAt w es t 0 0) (cP2:PrsAt w t es' 0 0) (cQ2:PrtAt w es' t 0 0) (cS:SamAt w es es' true):Calls Tryz.prog 16 #[.string s] w (TrueAt w):=by
 have b2:(t.toList == t.toList) = true:=by simp
 replace cR:=Hid.mkI cR
 replace cP:=Hid.mkI cP
 replace cQ:=Hid.mkI cQ
 replace cP2:=Hid.mkI cP2
 replace cQ2:=Hid.mkI cQ2
 replace cS:=Hid.mkI cS
 go_enter Tryz.func16,Tryz.ntmps16
 go_wp2_with fail
 refine Calls.mono cF ?_
 rintro _ w1 ⟨rfl,hb1⟩
 go_wp2_with fail
 refine (cR.out w1 hb1).mono ?_
 rintro _ w2 ⟨v,rfl,hb2⟩
 go_wp2_with fail
 refine (cP.out w2 hb2).mono ?_
 rintro _ w3 ⟨p,c,rfl,hb3,hE,-⟩
 clear cF cR cP hb1 hb2
 go_wp2_with fail
 refine (inum_any _ _).mono ?_
 rintro _ _ ⟨rfl,rfl⟩
 go_wp2_with fail
 refine (inum_any _ _).mono ?_
 rintro _ _ ⟨rfl,rfl⟩
 go_wp2_with fail
 refine (cQ.out _ p c hb3 hE).mono ?_
 rintro _ w4 ⟨rfl,hb4,hk4⟩
 have hE4:=(hE.below hk4).mono hk4.size
 clear hE hk4 cQ hb3
 go_wp2_with fail
 refine (inum_any _ _).mono ?_
 rintro _ _ ⟨rfl,rfl⟩
 go_wp2_with fail
 refine (cP2.out _ hb4).mono ?_
 rintro _ w5 ⟨p2,c2,rfl,hb5,hF,hk5⟩
 have hE5:=(hE4.below hk5).mono hk5.size
 clear hE4 hk5 cP2 hb4
 go_wp2_with fail
 refine (cQ2.out _ p2 c2 hb5 hF).mono ?_
 rintro _ w6 ⟨rfl,hb6,hk6⟩
 have hE6:=((hE5.below hk6).mono hk6.size).erow
 have hF6:=((hF.below hk6).mono hk6.size).erow
 clear hE5 hF hk6 cQ2 hb5
 go_wp2_with (first
  | (go_at_call 12;refine (inum_any _ _).mono ?_;rintro _ _ ⟨rfl,rfl⟩)
  | (go_at_call 20;refine (cS.out _ p p2 c c2 hb6 hE6 hF6).mono ?_;rintro _ w7 ⟨rfl,hb7,-⟩))
 go_ret
 exact ⟨rfl,hb7⟩
theorem jdr {B n:Nat} {a w:World} (h:Below B a w):Below B a (w.drewN n):=⟨h.os,h.tape,h.output,h.size,h.block⟩
structure Fel (S:ByteArray) (e e':El):Prop where
 d:e'.d = e.d
 nm:e'.nm = e.nm
 tx:e'.tx = e.tx
 n:e'.ats.length = e.ats.length
 at_:∀ (k:Nat) (a a':Att),e.ats[k]? = some a → e'.ats[k]? = some a' → a'.nm = a.nm ∧ a'.vl = a.vl
 n24:e.ats.length ≤ 24
 p:∃ n:Nat,e'.p = (n:Int) ∧ n < S.size ∧ ch S n = 60
structure ThC (w:World) (es es':List El) (S:ByteArray):Prop where
 cop:∀ W p c,Below w.heap.size w W → ERow W p W.heap.size es → Calls Tryz.prog 18 #[.slice p es.length c] W fun e w'=>∃ g cap,e = .returned (.slice (some ⟨g,0,none⟩) es.length cap) ∧ EC w' (some ⟨g,0,none⟩) w'.heap.size es ∧ Below w.heap.size w w' ∧ Below W.heap.size W w'
 chk:∀ W p c,Below w.heap.size w W → EC W p W.heap.size es → Calls Tryz.prog 17 #[.slice p es.length c] W fun e w'=>e = .returned (.tuple #[.int .i64 0,.int .i64 0]) ∧ Below w.heap.size w w' ∧ Below W.heap.size W w'
 prt:PrtAt w es S 0 0
 prs:PrsAt w S es' 0 0
 sam:SamAt w es' es true
 prt2:PrtAt w es' S 0 0
 more:∃ l a,PrsAt w (S ++ sBe) l 0 a
 x:∃ l a,PrsAt w (S ++ sX) l 53 a
 two:∃ l,PrsAt w (S ++ S) l 53 S.size
 cut:∀ n,n < S.size → ∃ er a,er ≠ 0 ∧ PrsAt w (S.extract 0 n) [] er a
 len:es'.length = es.length
 sz:S.size ≤ 400000
 l61:es.length ≤ 61
 one:∀ (i:Nat) (e e':El),es[i]? = some e → es'[i]? = some e' → Fel S e e'
def MadeAt (w:World) (pp:Option Addr) (n cp:Nat):Prop:=∀ W,Below w.heap.size w W → Calls Tryz.prog 8 #[.slice pp n cp] W fun e w'=>∃ p c es es' S,e = .returned (.slice p es.length c) ∧ ERow w' p w'.heap.size es ∧ Below w.heap.size w w' ∧ ThC w es es' S
theorem there_walk (w:World) (pp:Option Addr) (n cp:Nat) (cut:Int) (text:ByteArray) (cA:Calls Tryz.prog 16 #[.string text] w (TrueAt w)) (cM:MadeAt w pp n cp) :
  Calls Tryz.prog 6 #[.slice pp n cp,.int .i64 cut,.string text] w (TrueAt w):=by
 replace cM:=Hid.mkI cM
 go_enter Tryz.func6,Tryz.ntmps6
 go_wp2_with fail
 refine Calls.mono cA ?_
 rintro _ w1 ⟨rfl,hb1⟩
 go_wp2_with fail
 refine (cM.out w1 hb1).mono ?_
 rintro _ w2 ⟨p,c,es,es',S,rfl,hE2,hb2,hC⟩
 replace hC:=Hid.mkI hC
 clear cA cM hb1
 have hl:=hC.out.len
 have hl2:((es'.length:Int) != (es.length:Int)) = false:=by rw [hl];simp
 have hl3:((es'.length:Int) == (es.length:Int)) = true:=by rw [hl];simp
 replace hl:=Hid.mkI hl
 go_wp2_with fail
 refine (hC.out.cop w2 p c hb2 hE2).mono ?_
 rintro _ w3 ⟨g3,c3,rfl,hF3,hb3,hk3⟩
 have hE3:=(hE2.below hk3).mono hk3.size
 clear hE2 hk3 hb2
 go_wp2_with fail
 refine (hC.out.chk w3 _ c3 hb3 hF3).mono ?_
 rintro _ w4 ⟨rfl,hb4,hk4⟩
 have hE4:=(hE3.below hk4).mono hk4.size
 clear hE3 hk4 hb3 hF3
 go_wp2_with fail
 refine (hC.out.cop w4 p c hb4 hE4).mono ?_
 rintro _ w5 ⟨g5,c5,rfl,hF5,hb5,hk5⟩
 have hE5:=(hE4.below hk5).mono hk5.size
 clear hE4 hk5 hb4
 go_wp2_with fail
 refine (hC.out.prt w5 _ c5 hb5 hF5).mono ?_
 rintro _ w6 ⟨rfl,hb6,hk6⟩
 have hE6:=(hE5.below hk6).mono hk6.size
 clear hE5 hk6 hb5 hF5
 go_wp2_with fail
 refine (inum_any _ _).mono ?_
 rintro _ _ ⟨rfl,rfl⟩
 go_wp2_with fail
 refine (inum_any _ _).mono ?_
 rintro _ _ ⟨rfl,rfl⟩
 go_wp2_with fail
 refine (hC.out.prs _ hb6).mono ?_
 rintro _ w7 ⟨pl,cl,rfl,hb7,hL7,hk7⟩
 have hE7:=(hE6.below hk7).mono hk7.size
 clear hE6 hk7 hb6
 go_wp2_with fail
 refine (inum_any _ _).mono ?_
 rintro _ _ ⟨rfl,rfl⟩
 go_wp2_with fail
 refine (hC.out.cop _ p c hb7 hE7).mono ?_
 rintro _ w8 ⟨g8,c8,rfl,hF8,hb8,hk8⟩
 have hE8:=(hE7.below hk8).mono hk8.size
 have hL8:=(hL7.below hk8).mono hk8.size
 clear hE7 hL7 hk8 hb7
 go_wp2_with fail
 refine (hC.out.sam w8 pl _ cl c8 hb8 hL8.erow hF8.erow).mono ?_
 rintro _ w9 ⟨rfl,hb9,hk9⟩
 have hE9:=(hE8.below hk9).mono hk9.size
 have hL9:=(hL8.below hk9).mono hk9.size
 clear hE8 hL8 hk9 hb8 hF8
 go_wp2_with fail
 have hl61:=hC.out.l61
 clear hl2 hl3
 go_loopw [16] (fun i wr=>∃ k:Nat,k ≤ es.length ∧ i = .int .i64 k ∧ Below w9.heap.size w9 wr) (fun i _=>es.length - (RowKit.intOf i).toNat)
 case atStart=>exact ⟨0,Nat.zero_le _,rfl,Below.refl _ _⟩
 case round =>
  rename World=>wo
  obtain ⟨k,hk,rfl,hB⟩:=hrel
  by_cases hlt:k < es.length
  ·obtain ⟨e,he⟩:∃ e,es[k]? = some e:=⟨es[k],List.getElem?_eq_getElem hlt⟩
   obtain ⟨e',he'⟩:∃ e',es'[k]? = some e':=⟨es'[k]'(by have:=hl.out;omega),List.getElem?_eq_getElem (by have:=hl.out;omega)⟩
   obtain ⟨g,o,pa,ca,rfl,hg,q0,q1,q2,q3,q4,hA⟩:=(hE9.below hB).c k e he
   obtain ⟨g2,o2,pa2,ca2,rfl,hg2,r0,r1,r2,r3,r4,hA2,-⟩:=(hL9.below hB).c k e' he'
   obtain ⟨f0,f1,f3,fn,fa,f24,np,fp,fp1,fp2⟩:=hC.out.one k e e' he he'
   rw [f0] at r0
   rw [f1] at r1
   rw [f3] at r3
   rw [fn] at r2
   rw [fp] at r4
   have hlti:(k:Int) < es.length:=by omega
   have hlti2:(k:Int) < es'.length:=by have:=hl.out;omega
   have b1:(e.d == e.d) = true:=by simp
   have b2:((e.ats.length:Int) == e.ats.length) = true:=by simp
   have Hfa:=Hid.mkI fa
   have HN:=Hid.mkI fn
   clear he he' fa f0 f1 f3 fn fp
   go_wp2_with fail
   go_quiet (fail)
   go_wp2_with fail
   have hg':g < wo.heap.size:=Nat.lt_of_lt_of_le hg hB.size
   have hg2':g2 < wo.heap.size:=Nat.lt_of_lt_of_le hg2 hB.size
   have hA':=hA.mono hB.size
   have hA2':=hA2.mono hB.size
   clear q0 q1 q3 q4 r0 r1 r3 b1 b2 hA hA2 hE9 hL9
   go_loopw [17] (fun i wr=>∃ j:Nat,j ≤ e.ats.length ∧ i = .int .i64 j ∧ Below wo.heap.size wo wr) (fun i _=>e.ats.length - (RowKit.intOf i).toNat)
   case atStart=>exact ⟨0,Nat.zero_le _,rfl,jdr (Below.refl _ _)⟩
   case round =>
    obtain ⟨j,hj,rfl,hBi⟩:=hrel
    have c2:=(hBi.cell (p:=⟨g,o + k * 5 + 2,none⟩) hg').trans q2
    have d2:=(hBi.cell (p:=⟨g2,o2 + k * 5 + 2,none⟩) hg2').trans r2
    have d4:=(hBi.cell (p:=⟨g2,o2 + k * 5 + 4,none⟩) hg2').trans r4
    clear q2 r2 r4
    by_cases hjl:j < e.ats.length
    ·obtain ⟨y,hy⟩:∃ y,e.ats[j]? = some y:=⟨e.ats[j],List.getElem?_eq_getElem hjl⟩
     obtain ⟨y',hy'⟩:∃ y',e'.ats[j]? = some y':=⟨e'.ats[j]'(by have:=HN.out;omega),List.getElem?_eq_getElem (by have:=HN.out;omega)⟩
     obtain ⟨ga,oa,rfl,_,m0,m1,-⟩:=(hA'.below hBi).c j y hy
     obtain ⟨gb,ob,rfl,_,n0,n1,-⟩:=(hA2'.below hBi).c j y' hy'
     obtain ⟨e1,e2⟩:=Hfa.out j y y' hy hy'
     rw [e1] at n0
     rw [e2] at n1
     have hjl2:(j:Int) < e.ats.length:=by omega
     clear hy hy' e1 e2 d4 hA' hA2'
     go_wp2_with fail
     go_quiet (fail)
     go_wp2_with fail
     go_roundw
     case rel=>exact ⟨j + 1,by omega,by go_num,jdr hBi⟩
     case measure=>simp [RowKit.intOf];omega
    ·obtain rfl:j = e.ats.length:=by omega
     have t1:¬ (np:Int) < 0:=by omega
     have t2:¬ (S.size:Int) ≤ (np:Int):=by omega
     have t3:(np:Int) < (S.size:Int):=by omega
     have t4:=(ch_get S np fp1).trans fp2
     have t5:(((S[np]'fp1).toNat:Int) == 60) = true:=by rw [t4];rfl
     have t6:(((S[np]'fp1).toNat:Int) != 60) = false:=by rw [t4];rfl
     clear d2 hA' hA2' Hfa t4
     go_wp2_with fail
     go_roundw
     case rel=>exact ⟨k + 1,by omega,by go_num,hB.trans (hBi.mono hB.size)⟩
     case measure=>simp [RowKit.intOf];omega
  ·obtain rfl:k = es.length:=by omega
   have hb10:=hb9.trans (hB.mono hb9.size)
   have hL10:=(hL9.below hB).mono hB.size
   clear hE9 hL9 hlt hk hl hl61 hb9 hB
   obtain ⟨lm,am,cm⟩:=hC.out.more
   obtain ⟨lx,ax,cx⟩:=hC.out.x
   obtain ⟨lt,ct⟩:=hC.out.two
   replace cm:=Hid.mkI cm
   replace cx:=Hid.mkI cx
   replace ct:=Hid.mkI ct
   have hsz:=hC.out.sz
   have z1:sBe.size = 12:=rfl
   have z2:sX.size = 1:=rfl
   have z3:(S.toList == S.toList) = true:=by simp
   have z4:((S.size:Int) == (S.size:Int)) = true:=by simp
   go_wp2_with fail
   refine (hC.out.prt2 _ pl cl hb10 hL10).mono ?_
   rintro _ w11 ⟨rfl,hb11,-⟩
   clear hb10 hL10
   go_wp2_with fail
   refine (cm.out w11 hb11).mono ?_
   rintro _ w12 ⟨pm,qm,rfl,hb12,-,-⟩
   clear hb11 cm
   go_wp2_with fail
   refine (cx.out w12 hb12).mono ?_
   rintro _ w13 ⟨px,qx,rfl,hb13,-,-⟩
   clear hb12 cx
   go_wp2_with fail
   refine (ct.out w13 hb13).mono ?_
   rintro _ w14 ⟨pt,qt,rfl,hb14,-,-⟩
   clear hb13 ct
   by_cases hc:0 ≤ cut ∧ cut < (S.size:Int)
   ·obtain ⟨er,a,her,cc⟩:=hC.out.cut cut.toNat (by omega)
    replace cc:=Hid.mkI cc
    have y1:¬ cut < 0:=by omega
    have y2:¬ (S.size:Int) ≤ cut:=by omega
    have y3:=int_ne0 her
    have y4:((er:Int) == 0) = false:=beq_eq_false_iff_ne.2 (by omega)
    go_wp2_with (first
     | (go_at_call 12;refine (inum_any _ _).mono ?_;rintro _ w' ⟨rfl,hw'⟩;replace hw':=hw'.symm;subst hw')
     | (go_at_call 10;refine (cc.out w14 hb14).mono ?_;rintro _ w15 ⟨p15,q15,rfl,hb15,-,-⟩))
    go_ret
    exact ⟨rfl,hb15⟩
   ·by_cases h0:cut < 0
    ·go_wp2_with (go_at_call 12;refine (inum_any _ _).mono ?_;rintro _ w' ⟨rfl,hw'⟩;replace hw':=hw'.symm;subst hw')
     go_ret
     exact ⟨rfl,hb14⟩
    ·have y2:(S.size:Int) ≤ cut:=by omega
     clear hc
     go_wp2_with (go_at_call 12;refine (inum_any _ _).mono ?_;rintro _ w' ⟨rfl,hw'⟩;replace hw':=hw'.symm;subst hw')
     go_ret
     exact ⟨rfl,hb14⟩
theorem parseZ_G (s:ByteArray):parseZ s = parseG blankB s:=by
 unfold parseZ parseG
 cases hz:toksN s with
 | mk us o =>
  cases o with
  | none =>
   have e1:er1 s = 0:=by unfold er1;rw [hz];rfl
   have e2:LL s = us:=by unfold LL;rw [hz]
   rw [e2,if_neg (by rw [e1];decide)]
   dsimp only
   cases takeL blankB us ⟨[],[]⟩ with
   | error x=>rfl
   | ok t =>
    dsimp only
    unfold endE
    by_cases h1:t.op ≠ []
    ·rw [if_pos h1,if_pos h1,if_neg (by decide)]
    ·rw [if_neg h1,if_neg h1]
     by_cases h2:t.es = []
     ·rw [if_pos h2,if_pos h2,if_neg (by decide)]
     ·rw [if_neg h2,if_neg h2,if_pos rfl]
  | some x =>
   have h0:x.1 ≠ 0:=toksF_ne (s:=s) (e:=x.1) (p:=x.2) (show (toksN s).2 = some (x.1,x.2) by rw [hz])
   have e1:er1 s = x.1:=by unfold er1;rw [hz];rfl
   have e2:er2 s = x.2:=by unfold er2;rw [hz];rfl
   rw [if_pos (by rw [e1];exact h0),e1,e2]
theorem parse_tok {s:ByteArray} (h:(parseZ s).2.1 = 0):∃ us,toksN s = (us,none) ∧ takeL blankB us ⟨[],[]⟩ = .ok ⟨[],(parseZ s).1⟩ ∧ (parseZ s).1 ≠ []:=by
 rw [parseZ_G] at h ⊢
 unfold parseG at h ⊢
 cases hz:toksN s with
 | mk us o =>
  rw [hz] at h
  cases o with
  | some x =>
   exact absurd h (toksF_ne (s:=s) (e:=x.1) (p:=x.2) (show (toksN s).2 = some (x.1,x.2) by rw [hz]))
  | none =>
   dsimp only at h ⊢
   refine ⟨us,rfl,?_⟩
   cases ht:takeL blankB us ⟨[],[]⟩ with
   | error x=>rw [ht] at h;exact absurd h (takeL_err us ht)
   | ok t =>
    rw [ht] at h
    dsimp only at h ⊢
    by_cases h1:t.op ≠ []
    ·rw [if_pos h1] at h;exact absurd h (show ¬ (51:Nat) = 0 by decide)
    ·rw [if_neg h1] at h ⊢
     by_cases h2:t.es = []
     ·rw [if_pos h2] at h;exact absurd h (show ¬ (53:Nat) = 0 by decide)
     ·rw [if_neg h2]
      obtain ⟨op,es⟩:=t
      exact ⟨by rw [show op = [] from Classical.not_not.1 h1],h2⟩
theorem parse_tree {s:ByteArray} (h:(parseZ s).2.1 = 0):chkZ (parseZ s).1 = (0,0) ∧ PSz (parseZ s).1 ∧ ∀ e ∈ (parseZ s).1,e.ats.length ≤ 24:=by
 obtain ⟨us,h1,h2,h3⟩:=parse_tok h
 obtain ⟨hc,hl⟩:=fwd_all h1
 have ht:=takeL_tok us (-1) hc h2 TOk.new
 have hs:=(toks_ok h1).1
 have hz:=takeL_sz (N:=16777216) us (m:=0) (fun u hu=>toks_small h1 u.it (List.mem_map_of_mem hu)) h2 (fun e he=>by cases he)
 have hv:=sumV_le us hc
 refine ⟨ht.chk h3,⟨?_,fun e he=>?_,fun e he=>?_⟩,fun e he=>(ht.gd e he).a24⟩
 ·have:=ht.n
  dsimp only at this
  omega
 ·have:=(ht.gd e he).d1
  have:=(ht.gd e he).d2
  omega
 ·obtain ⟨q1,q2,q3⟩:=hz e he
  have:=(ht.gd e he).a24
  exact ⟨q1,by omega,by omega,q3⟩
theorem prtZ_same {l m:List El} (h:sameEs l m = true) (hc:(chkZ m).1 = 0):prtZ l = prtZ m:=by
 have e:=chkZ_same h
 have hc2:(chkZ l).1 = 0:=by rw [e];exact hc
 unfold prtZ
 rw [if_pos hc,if_pos hc2,← pcs_all hc,← pcs_all hc2,pcsF_same [] h,sameEs_len h]
theorem prtZ_ok {es:List El} (hc:(chkZ es).1 = 0) (hl:(flatL (pcsF es [])).length ≤ 1048576):prtZ es = (flatL (pcsF es []),0,0):=by
 unfold prtZ
 rw [if_pos hc,← pcs_all hc,if_pos hl]
theorem again_math {s:ByteArray} (h:(parseZ s).2.1 = 0):prtZ (parseZ s).1 = ([],45,(parseZ s).1.length) ∨ ∃ T es',prtZ (parseZ s).1 = (T,0,0) ∧ (sOf T).size ≤ 1048576 ∧ parseZ (sOf T) = (es',0,0) ∧ sameEs (parseZ s).1 es' = true ∧ prtZ es' = (T,0,0) ∧ PSz es':=by
 have hc:(chkZ (parseZ s).1).1 = 0:=by rw [(parse_tree h).1]
 generalize (parseZ s).1 = es at hc
 by_cases hl:(flatL (pcsF es [])).length ≤ 1048576
 ·right
  have hp:=prtZ_ok hc hl
  obtain ⟨es',h1,h2,-⟩:=parse_print blankB hc hl
  rw [← parseZ_G] at h1
  have h3:=parse_tree (s:=sOf (flatL (pcsF es []))) (by rw [h1])
  rw [h1] at h3
  exact ⟨_,es',hp,by rw [sOf_size];exact hl,h1,sameEs_symm h2,(prtZ_same h2 hc).trans hp,h3.2.1⟩
 ·left
  unfold prtZ
  rw [if_pos hc,← pcs_all hc,if_neg hl]
theorem parse_bad {s:ByteArray} (h:(parseZ s).2.1 ≠ 0):(parseZ s).1 = []:=by
 rw [parseZ_G] at h ⊢
 unfold parseG at h ⊢
 split
 ·rfl
 ·rename_i hz
  rw [hz] at h
  dsimp only at h
  split
  ·rfl
  ·rename_i ht
   rw [ht] at h
   dsimp only at h
   split
   ·rfl
   ·rename_i h1
    rw [if_neg h1] at h
    split
    ·rfl
    ·rename_i h2
     rw [if_neg h2] at h
     exact absurd rfl h
abbrev sBl:ByteArray:=⟨#[32]⟩
abbrev sCm:ByteArray:=⟨#[32,120,32]⟩
abbrev sNl:ByteArray:=⟨#[10]⟩
theorem vx_s {v:ByteArray} (h:∀ c ∈ lOf v,c < 128 ∧ xmlB (c:Int) = true):VX (lOf v):=vx_all h
theorem flat_be:flatL [pcT sBl,⟨6,E0,sCm,0⟩,pcT sNl] = lOf sBe:=by kernel_rfl
theorem flat_x:flatL [pcT sX] = lOf sX:=by kernel_rfl
theorem sOf_app2 (a:List Nat) (v:ByteArray):sOf (a ++ lOf v) = sOf a ++ v:=by rw [sOf_append,sOf_lOf]
theorem flat_lt (ts:List IT):∀ b ∈ flatL ts,b < 256:=fun b hb=>by
 obtain ⟨t,_,h⟩:=List.mem_flatMap.1 hb
 exact lOf_lt _ _ h
structure ThereM (es:List El) (S:ByteArray):Prop where
 chk:chkZ es = (0,0)
 prt:prtZ es = (lOf S,0,0)
 sz:S.size ≤ 400000
 psz:PSz es
 back:∃ es',parseZ S = (es',0,0) ∧ sameEs es' es = true ∧ (∀ e ∈ es',∃ n:Nat,e.p = (n:Int) ∧ n < S.size ∧ ch S n = 60) ∧ prtZ es' = (lOf S,0,0) ∧ PSz es'
 more:(parseZ (S ++ sBe)).2.1 = 0
 x:(parseZ (S ++ sX)).2.1 = 53
 two:(parseZ (S ++ S)).2 = (53,S.size)
 cut:∀ n,n < S.size → (parseZ (S.extract 0 n)).1 = [] ∧ (parseZ (S.extract 0 n)).2.1 ≠ 0
theorem there_math {es:List El} (hl:es.length ≤ 61) (hne:es ≠ []) (hd:Dep es) (h6:∀ e ∈ es,1 ≤ e.d ∧ e.d ≤ 16) (hm:∀ e ∈ es,MOk e):∃ S,ThereM es S:=by
 have hk:=made_chk hl hne hd h6 hm
 have hc:(chkZ es).1 = 0:=by rw [hk]
 have hs:=made_short hl hm
 have hlo:lOf (sOf (flatL (pcsF es []))) = flatL (pcsF es []):=lOf_sOf _ (flat_lt _)
 have hsz:(sOf (flatL (pcsF es []))).size = (flatL (pcsF es [])).length:=sOf_size _
 refine ⟨sOf (flatL (pcsF es [])),hk,?_,?_,?_,?_,?_,?_,?_,?_⟩
 ·rw [hlo];exact prtZ_ok hc (by omega)
 ·omega
 ·refine ⟨by omega,fun e he=>?_,fun e he=>?_⟩
  ·have:=h6 e he;omega
  ·obtain ⟨q1,q2,q3,q4⟩:=(hm e he).small
   exact ⟨by omega,by omega,by omega,fun a ha=>by have:=q4 a ha;omega⟩
 ·obtain ⟨es',h1,h2,h3⟩:=parse_print blankB hc (by omega)
  rw [← parseZ_G] at h1
  have h4:=parse_tree (s:=sOf (flatL (pcsF es []))) (by rw [h1])
  rw [h1] at h4
  exact ⟨es',h1,h2,h3,by rw [hlo];exact (prtZ_same h2 hc).trans (prtZ_ok hc (by omega)),h4.2.1⟩
 ·have:=parse_more blankB hc (v1:=sBl) (v2:=sCm) (v3:=sNl) (by kernel_rfl) (by kernel_rfl) (vx_s (by decide)) (vx_s (by decide)) (vx_s (by decide)) (by decide) (by decide) (by kernel_rfl) (by rw [flatL_app,flat_be,List.length_append,lOf_length];have:sBe.size = 12:=rfl;omega)
  obtain ⟨es',h1⟩:=this
  rw [flatL_app,flat_be,sOf_app2,← parseZ_G] at h1
  rw [h1]
 ·obtain ⟨p,h1⟩:=parse_text blankB hc (v:=sX) (by kernel_rfl) (vx_s (by decide)) (by decide) (by rw [flatL_app,flat_x,List.length_append,lOf_length];have:sX.size = 1:=rfl;omega)
  rw [flatL_app,flat_x,sOf_app2,← parseZ_G] at h1
  rw [h1]
 ·have h1:=parse_twice blankB hc (by rw [flatL_app,List.length_append];omega)
  rw [flatL_app,sOf_append,← parseZ_G] at h1
  rw [h1,hsz]
 ·intro n hn
  by_cases h0:(parseZ ((sOf (flatL (pcsF es []))).extract 0 n)).2.1 = 0
  ·exfalso
   obtain ⟨us,h1,-,-⟩:=parse_tok h0
   have:=parse_cut blankB hc (cut:=n) (by omega) (by omega) ⟨us,h1,(toks_ok h1).2⟩
   rw [← parseZ_G] at this
   exact this.2 h0
  ·exact ⟨parse_bad h0,h0⟩
open Go.Shelf
structure TE (w:World):Prop where
 e:Env w
 s:ShpTab w
 h7:7 ≤ w.heap.size
theorem TE.go {w W:World} (h:TE w) (hb:Below w.heap.size w W):TE W:=⟨h.e.below hb h.h7,h.s.below hb h.h7,Nat.le_trans h.h7 hb.size⟩
theorem prs_at {w:World} (h:TE w) {s:ByteArray} (hs:s.size ≤ 9223372036854775807) {es:List El} {er at_:Nat} (hz:parseZ s = (es,er,at_)):PrsAt w s es er at_:=fun W hb =>
 (Parse_ec s W (h.go hb).e (h.go hb).h7 hs).mono fun e w' hq=>by
  unfold ParseE at hq
  rw [hz] at hq
  obtain ⟨p,c,h1,h2,h3⟩:=hq
  exact ⟨p,c,h1,hb.trans (h2.mono hb.size),h3,h2⟩
theorem prt_at {w:World} (h:TE w) {es:List El} (hp:PSz es) {T:List Nat} {er at_:Nat} (hz:prtZ es = (T,er,at_)):PrtAt w es (sOf T) er at_:=fun W p c hb hr =>
 (tPrint_any p c es W hr hp (h.go hb).e (h.go hb).s (h.go hb).h7).mono fun e w' hq=>by
  rw [hz] at hq
  exact ⟨hq.1,hb.trans (hq.2.mono hb.size),hq.2⟩
theorem sam_at (w:World) {l m:List El} (hp:PSz l) {b:Bool} (hz:sameEs l m = b):SamAt w l m b:=fun W pa pb ca cb hb h1 h2 =>
 (Same_any l m pa pb ca cb W h1 h2 (by have:=hp.n;omega) (fun a h=>by have:=(hp.s a h).2.2.1;omega)).mono fun e w' hq=>by
  rw [hz] at hq
  exact ⟨hq.1,hb.trans (hq.2.mono hb.size),hq.2⟩
theorem ref_at {w:World} {s:ByteArray} (hs:s.size ≤ 9223372036854775807) {es:List El} {er at_:Nat} (hz:parseZ s = (es,er,at_)):RefAt w s er at_:=fun W hb =>
 (refParse_any s W hs).mono fun e w' hq=>by
  unfold ParseU at hq
  rw [hz] at hq
  obtain ⟨p,c,h1,h2,_⟩:=hq
  exact ⟨_,h1,hb.trans (h2.mono hb.size)⟩
theorem again_any (s:ByteArray) (w:World) (h:TE w) (hs:s.size ≤ 9223372036854775807):Calls Tryz.prog 16 #[.string s] w (TrueAt w):=by
 have cF:FixAt w:=fixed_any w h.e h.h7
 have hA:=again_math (s:=s)
 have hB:=parse_bad (s:=s)
 have hT:=parse_tree (s:=s)
 obtain ⟨Z,hZ⟩:∃ Z,parseZ s = Z:=⟨_,rfl⟩
 rw [hZ] at hA hB hT
 obtain ⟨es,er,at_⟩:=Z
 dsimp only at hA hB hT
 by_cases h0:er = 0
 ·subst h0
  obtain ⟨-,hp,-⟩:=hT rfl
  rcases hA rfl with hz | ⟨T,es',hz,hsz,hpz,hsm,hz2,hp2⟩
  ·exact again_long s w es at_ cF (ref_at hs hZ) (prs_at h hs hZ) (prt_at h hp hz)
  ·exact again_back s w es es' (sOf T) at_ cF (ref_at hs hZ) (prs_at h hs hZ) (prt_at h hp hz) (prs_at h (by omega) hpz) (prt_at h hp2 hz2) (sam_at w hp hsm)
 ·obtain rfl:=hB h0
  exact again_bad s w er at_ h0 cF (ref_at hs hZ) (prs_at h hs hZ)
theorem sameAs_get:∀ {l m:List Att} {k:Nat} {a b:Att},sameAs l m = true → m[k]? = some b → l[k]? = some a → a.nm = b.nm ∧ a.vl = b.vl
 | [],[],_,_,_,_,h,_=>by cases h
 | a :: l,b :: m,0,x,y,h,h1,h2=>by
  cases h1
  cases h2
  exact ⟨(sameAs_cons h).1,(sameAs_cons h).2.1⟩
 | a :: l,b :: m,k + 1,x,y,h,h1,h2=>sameAs_get (sameAs_cons h).2.2 h1 h2
 | [],_ :: _,_,_,_,h,_,_=>by cases h
 | _ :: _,[],_,_,_,h,_,_=>by cases h
theorem sameEs_get:∀ {l m:List El} {k:Nat} {a b:El},sameEs l m = true → m[k]? = some b → l[k]? = some a → sameE a b = true
 | [],[],_,_,_,_,h,_=>by cases h
 | a :: l,b :: m,0,x,y,h,h1,h2=>by
  cases h1
  cases h2
  exact (sameEs_cons h).1
 | a :: l,b :: m,k + 1,x,y,h,h1,h2=>sameEs_get (sameEs_cons h).2 h1 h2
 | [],_ :: _,_,_,_,h,_,_=>by cases h
 | _ :: _,[],_,_,_,h,_,_=>by cases h
theorem prs_ex {w:World} (h:TE w) {s:ByteArray} (hs:s.size ≤ 9223372036854775807) {er:Nat} (hz:(parseZ s).2.1 = er):∃ l a,PrsAt w s l er a:=⟨(parseZ s).1,(parseZ s).2.2,prs_at h hs (by rw [← hz])⟩
theorem thc_of {w:World} (h:TE w) {es:List El} {S:ByteArray} (hM:ThereM es S) (h61:es.length ≤ 61) (h24:∀ e ∈ es,e.ats.length ≤ 24):∃ es',ThC w es es' S:=by
 have hsz:=hM.sz
 obtain ⟨es',h1,h2,h3,h4,h5⟩:=hM.back
 have hS:sOf (lOf S) = S:=sOf_lOf S
 have hp:=hM.psz
 refine ⟨es',⟨fun W p c hb hr=>?_,fun W p c hb hr=>?_,?_,prs_at h (by omega) h1,sam_at w h5 h2,?_,prs_ex h (by rw [ByteArray.size_append];have:sBe.size = 12:=rfl;omega) hM.more,prs_ex h (by rw [ByteArray.size_append];have:sX.size = 1:=rfl;omega) hM.x,?_,fun n hn=>?_,sameEs_len h2,hsz,h61,fun i e e' he he'=>?_⟩⟩
 ·refine (copied_any p c es W hr (by have:=hp.n;omega) (fun e he=>by have:=(hp.s e he).2.2.1;omega)).mono fun e w' hq=>?_
  obtain ⟨g,cap,q1,q2,q3⟩:=hq
  exact ⟨g,cap,q1,q2.ec,hb.trans (q3.mono hb.size),q3⟩
 ·refine (tCheck_any p c es W hr hp).mono fun e w' hq=>?_
  rw [hM.chk] at hq
  exact ⟨hq.1,hb.trans (hq.2.mono hb.size),hq.2⟩
 ·have:=prt_at h hp hM.prt
  rwa [hS] at this
 ·have:=prt_at h h5 h4
  rwa [hS] at this
 ·refine ⟨(parseZ (S ++ S)).1,prs_at h (by rw [ByteArray.size_append];omega) ?_⟩
  rw [← hM.two]
 ·obtain ⟨k1,k2⟩:=hM.cut n hn
  refine ⟨(parseZ (S.extract 0 n)).2.1,(parseZ (S.extract 0 n)).2.2,k2,prs_at h (by rw [ByteArray.size_extract];omega) ?_⟩
  rw [← k1]
 ·obtain ⟨d1,d2,d3,d4⟩:=sameE_iff (sameEs_get h2 he he')
  exact ⟨d1,d2,d3,sameAs_len d4,fun k a a' ha ha'=>sameAs_get d4 ha ha',h24 e (List.mem_of_getElem? he),h3 e' (List.mem_of_getElem? he')⟩
theorem TreeThere_any (pp:Option Addr) (cp:Nat) (sd:List Sd) (cut:Int) (text:ByteArray) (w:World) (hr:SdRow w pp w.heap.size sd) (hok:SdOk sd) (h:TE w) (hs:text.size ≤ 9223372036854775807) :
  Calls Tryz.prog 6 #[.slice pp sd.length cp,.int .i64 cut,.string text] w fun e w'=>e = .returned (.bool true) ∧ Below w.heap.size w w':=by
 refine there_walk w pp sd.length cp cut text (again_any text w h hs) fun W hb=>?_
 refine (madeX_any pp cp sd W ((hr.below hb).mono hb.size) hok).mono fun e w' hq=>?_
 obtain ⟨v,rfl,k,f,ex,hk,hI⟩:=hq
 obtain ⟨p,c,rfl,hE⟩:=hI.d.erow
 have hn:=hI.l
 have hmo:∀ e ∈ ex.map Elx.e,MOk e:=fun e he=>by
  obtain ⟨x,hx,rfl⟩:=List.mem_map.1 he
  exact hI.mo x hx
 have h61:(ex.map Elx.e).length ≤ 61:=by rw [List.length_map];omega
 obtain ⟨S,hS⟩:=there_math h61 (by intro hh;have:=congrArg List.length hh;rw [List.length_map,List.length_nil] at this;omega) hI.d.dp (fun e he=>by
  obtain ⟨x,hx,rfl⟩:=List.mem_map.1 he
  exact hI.d.d6 x hx) hmo
 obtain ⟨es',hT⟩:=thc_of h hS h61 (fun e he=>(hmo e he).n)
 exact ⟨p,c,ex.map Elx.e,es',S,by rw [List.length_map],hE,hb.trans (hI.bel.mono hb.size),hT⟩
end Go.Proofs.YtchfphakhmifmabGreatDoor

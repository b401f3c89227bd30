import Derived.Test.YtchfphakhmifmabGreatDoorTB1
namespace Go.Proofs.YtchfphakhmifmabGreatDoor
set_option maxRecDepth 1000000
set_option maxHeartbeats 16000000
open Go.Lib Go
theorem takeL_app (bl:ByteArray → Bool):∀ (a b:List Tok) {s s':PSt},takeL bl a s = .ok s' → takeL bl (a ++ b) s = takeL bl b s'
 | [],b,s,s',h=>by cases h;rfl
 | t :: a,b,s,s',h=>by
  simp only [takeL,List.cons_append] at h ⊢
  cases hz:takeT bl s t with
  | error e=>rw [hz] at h;cases h
  | ok s1=>rw [hz] at h;exact takeL_app bl a b h
theorem sm_app:∀ {us:List Tok} {a b:List IT},Sm us (a ++ b) → ∃ u1 u2,us = u1 ++ u2 ∧ Sm u1 a ∧ Sm u2 b
 | us,[],b,h=>⟨[],us,rfl,trivial,h⟩
 | [],_ :: _,_,h=>by cases h
 | u :: us,t :: a,b,h=>by
  obtain ⟨u1,u2,e,h1,h2⟩:=sm_app (us:=us) (a:=a) (b:=b) h.2.2.2
  exact ⟨u :: u1,u2,by rw [e];rfl,⟨h.1,h.2.1,h.2.2.1,h1⟩,h2⟩
theorem sm_cons:∀ {us:List Tok} {t:IT} {b:List IT},Sm us (t :: b) → ∃ u u2,us = u :: u2 ∧ (u.k:Int) = t.k ∧ u.nm = t.nm ∧ u.vl = t.vl ∧ Sm u2 b
 | [],_,_,h=>by cases h
 | u :: us,t,b,h=>⟨u,us,rfl,h.1,h.2.1,h.2.2.1,h.2.2.2⟩
theorem sm_nil:∀ {us:List Tok},Sm us [] → us = []
 | [],_=>rfl
 | _ :: _,h=>by cases h
def nmsOf (es:List El) (op:List Nat):List (Option ByteArray):=op.map fun i=>(es[i]?).map El.nm
theorem last_at (op:List Nat) (j:Nat):(op ++ [j]).getLast? = some j:=by simp
theorem at_len (pre:List El) (e:El):(pre ++ [e])[pre.length]? = some e:=by simp
theorem set_len_at (pre:List El) (e x:El):(pre ++ [e]).set pre.length x = pre ++ [x]:=by simp
theorem hasA_same:∀ {l m:List Att},sameAs l m = true → ∀ nm,hasA l nm = hasA m nm
 | [],[],_,_=>rfl
 | a :: r,b :: s,h,nm=>by
  unfold sameAs at h
  rw [Bool.and_eq_true] at h
  have h1:a.nm = b.nm:=by
   have:=h.1
   unfold sameA at this
   rw [Bool.and_eq_true] at this
   exact of_decide_eq_true this.1
  have:=hasA_same h.2 nm
  unfold hasA at this ⊢
  rw [List.any_cons,List.any_cons,this,h1]
 | [],_ :: _,h,_=>by cases h
 | _ :: _,[],h,_=>by cases h
theorem sameAs_snoc:∀ {l m:List Att} {a b:Att},sameAs l m = true → sameA a b = true → sameAs (l ++ [a]) (m ++ [b]) = true
 | [],[],a,b,_,h=>by show (sameA a b && true) = true;rw [h];rfl
 | x :: r,y :: s,a,b,h,h2=>by
  unfold sameAs at h
  rw [Bool.and_eq_true] at h
  show (sameA x y && sameAs (r ++ [a]) (s ++ [b])) = true
  rw [h.1,sameAs_snoc h.2 h2]
  rfl
 | [],_ :: _,_,_,h,_=>by cases h
 | _ :: _,[],_,_,h,_=>by cases h
theorem take_ats (bl:ByteArray → Bool) (op:List Nat) (pre:List El) (d:Int) (nm:ByteArray) (p:Int):∀ (l:List Att) (us:List Tok) (al am:List Att),Sm us (l.map pcA) → atE am l = 0 → sameAs al am = true → am.length + l.length ≤ 24 →
  ∃ al',takeL bl us ⟨op ++ [pre.length],pre ++ [⟨d,nm,al,⟨#[]⟩,p⟩]⟩ = .ok ⟨op ++ [pre.length],pre ++ [⟨d,nm,al',⟨#[]⟩,p⟩]⟩ ∧ sameAs al' (am ++ l) = true
 | [],us,al,am,h,_,hs,_=>by
  rw [sm_nil h]
  exact ⟨al,rfl,by rw [List.append_nil];exact hs⟩
 | a :: l,us,al,am,h,ha,hs,hl=>by
  rw [List.map_cons] at h
  obtain ⟨u,u2,rfl,h1,h2,h3,h4⟩:=sm_cons h
  have hk:u.k = 1:=by have:(u.k:Int) = 1:=h1;omega
  unfold atE at ha
  split at ha
  ·split at ha
   ·cases ha
   ·rename_i hh
    rw [List.length_cons] at hl
    have hlen:=sameAs_len hs
    have ht:takeT bl ⟨op ++ [pre.length],pre ++ [⟨d,nm,al,⟨#[]⟩,p⟩]⟩ u = .ok ⟨op ++ [pre.length],pre ++ [⟨d,nm,al ++ [⟨u.nm,u.vl,(u.p:Int)⟩],⟨#[]⟩,p⟩]⟩:=by
     unfold takeT
     rw [if_neg (by omega),if_pos hk]
     simp only [last_at,at_len,set_len_at]
     rw [if_neg (by rw [hasA_same hs,h2];exact hh),if_neg (by omega)]
    obtain ⟨al',h5,h6⟩:=take_ats bl op pre d nm p l u2 (al ++ [⟨u.nm,u.vl,(u.p:Int)⟩]) (am ++ [a]) h4 ha (sameAs_snoc hs (by unfold sameA;rw [h2,h3];simp [pcA])) (by rw [List.length_append];simp;omega)
    refine ⟨al',?_,by rw [List.append_assoc] at h6;exact h6⟩
    simp only [takeL,ht]
    exact h5
  ·cases ha
theorem take_shut (bl:ByteArray → Bool) (es:List El) (d:Nat):∀ (st:List ByteArray) (op:List Nat) (us:List Tok),Sm us (shutL st d) → nmsOf es op = (st.reverse.map some) →
  ∃ op',takeL bl us ⟨op,es⟩ = .ok ⟨op',es⟩ ∧ nmsOf es op' = ((cutS st d).reverse.map some) ∧ (∀ i ∈ op',i ∈ op)
 | [],op,us,h,hn=>by
  have e1:shutL [] d = []:=by unfold shutL;simp
  have e2:cutS [] d = []:=by unfold cutS;simp
  rw [e1] at h
  rw [e2,sm_nil h]
  exact ⟨op,rfl,hn,fun i hi=>hi⟩
 | nm :: st,op,us,h,hn=>by
  by_cases hd:d ≤ st.length
  ·rw [shutL_cons nm st d hd] at h
   obtain ⟨u,u2,rfl,h1,h2,h3,h4⟩:=sm_cons h
   have hk:u.k = 4:=by have:(u.k:Int) = 4:=h1;omega
   rw [List.reverse_cons,List.map_append] at hn
   have hne:op ≠ []:=fun e=>by subst e;simp [nmsOf] at hn
   obtain ⟨o2,i,rfl⟩:∃ o2 i,op = o2 ++ [i]:=⟨op.dropLast,op.getLast hne,(List.dropLast_concat_getLast hne).symm⟩
   unfold nmsOf at hn
   rw [List.map_append] at hn
   obtain ⟨hn1,hn2⟩:=List.append_inj' hn rfl
   have hi:(es[i]?).map El.nm = some nm:=by simpa using hn2
   obtain ⟨e,he,hee⟩:=Option.map_eq_some_iff.1 hi
   have ht:takeT bl ⟨o2 ++ [i],es⟩ u = .ok ⟨o2,es⟩:=by
    unfold takeT
    rw [if_neg (by omega),if_neg (by omega),if_neg (by omega),if_pos hk]
    simp only [last_at,he]
    rw [if_pos (by rw [hee,h2];rfl),List.dropLast_concat]
   obtain ⟨op',h5,h6,h7⟩:=take_shut bl es d st o2 u2 h4 hn1
   refine ⟨op',?_,by rw [cutS_cons nm st d hd];exact h6,fun i hi=>by have:=h7 i hi;simp [this]⟩
   simp only [takeL,ht]
   exact h5
  ·have e1:shutL (nm :: st) d = []:=by unfold shutL;rw [List.length_cons,show st.length + 1 - d = 0 by omega];rfl
   have e2:cutS (nm :: st) d = nm :: st:=by unfold cutS;rw [List.length_cons,show st.length + 1 - d = 0 by omega];rfl
   rw [e1] at h
   rw [e2,sm_nil h]
   exact ⟨op,rfl,hn,fun i hi=>hi⟩
theorem sameE_mk {a b:El} (h1:a.d = b.d) (h2:a.nm = b.nm) (h3:a.tx = b.tx) (h4:sameAs a.ats b.ats = true):sameE a b = true:=by
 unfold sameE
 rw [h4,decide_eq_true h1,decide_eq_true h2,decide_eq_true h3]
 rfl
theorem empty_app (v:ByteArray):(⟨#[]⟩:ByteArray) ++ v = v:=by
 apply ByteArray.ext
 rw [ByteArray.data_append]
 simp
theorem size0 {v:ByteArray} (h:v.size = 0):v = ⟨#[]⟩:=by
 apply ByteArray.ext
 apply Array.eq_empty_of_size_eq_zero
 exact h
theorem take_put (bl:ByteArray → Bool) (op:List Nat) (pre:List El) (e:El) (hb:Bool) (us:List Tok) (h:Sm us (putP e hb)) (hd:(op.length:Int) + 1 = e.d) (hr:¬ (op = [] ∧ pre ≠ [])) (h16:op.length < 16) (hn:pre.length < 20000) (ha:atE [] e.ats = 0) (h24:e.ats.length ≤ 24) :
  ∃ e',takeL bl us ⟨op,pre⟩ = .ok ⟨if leaf e hb = true then op else op ++ [pre.length],pre ++ [e']⟩ ∧ sameE e' e = true:=by
 unfold putP at h
 obtain ⟨u,us,rfl,h1,h2,h3,h4⟩:=sm_cons h
 obtain ⟨u1,u2,rfl,h5,h6⟩:=sm_app h4
 have hk:u.k = 0:=by have:(u.k:Int) = 0:=h1;omega
 have ht:takeT bl ⟨op,pre⟩ u = .ok ⟨op ++ [pre.length],pre ++ [⟨(op.length:Int) + 1,u.nm,[],⟨#[]⟩,(u.p:Int)⟩]⟩:=by
  unfold takeT
  rw [if_pos hk,if_neg hr,if_neg (by show ¬ op.length = 16;omega),if_neg (by show ¬ pre.length = 20000;omega)]
 obtain ⟨al,h7,h8⟩:=take_ats bl op pre ((op.length:Int) + 1) u.nm (u.p:Int) e.ats u1 [] [] h5 ha rfl (by simp;omega)
 rw [List.nil_append] at h8
 have hnm:u.nm = e.nm:=h2
 cases hl:leaf e hb
 ·rw [hl] at h6
  simp only [Bool.false_eq_true,if_false] at h6 ⊢
  obtain ⟨v,u3,rfl,g1,g2,g3,g4⟩:=sm_cons h6
  have hkv:v.k = 2:=by have:(v.k:Int) = 2:=g1;omega
  have htv:∀ s,takeT bl s v = .ok s:=fun s=>by
   unfold takeT
   rw [if_neg (by omega),if_neg (by omega),if_neg (by omega),if_neg (by omega),if_neg (by omega)]
  split at g4
  ·rename_i hz
   rw [sm_nil g4]
   refine ⟨⟨(op.length:Int) + 1,u.nm,al,⟨#[]⟩,(u.p:Int)⟩,?_,sameE_mk hd hnm (size0 hz).symm h8⟩
   simp only [takeL,ht]
   rw [takeL_app bl u1 [v] h7]
   simp only [takeL,htv]
  ·obtain ⟨x,u4,rfl,k1,k2,k3,k4⟩:=sm_cons g4
   rw [sm_nil k4]
   have hkx:x.k = 5:=by have:(x.k:Int) = 5:=k1;omega
   have htx:takeT bl ⟨op ++ [pre.length],pre ++ [⟨(op.length:Int) + 1,u.nm,al,⟨#[]⟩,(u.p:Int)⟩]⟩ x = .ok ⟨op ++ [pre.length],pre ++ [⟨(op.length:Int) + 1,u.nm,al,(⟨#[]⟩:ByteArray) ++ x.vl,(u.p:Int)⟩]⟩:=by
    unfold takeT
    rw [if_neg (by omega),if_neg (by omega),if_neg (by omega),if_neg (by omega),if_pos hkx]
    simp only [last_at,at_len,set_len_at]
   refine ⟨⟨(op.length:Int) + 1,u.nm,al,(⟨#[]⟩:ByteArray) ++ x.vl,(u.p:Int)⟩,?_,sameE_mk hd hnm (by rw [empty_app];exact k3) h8⟩
   simp only [takeL,ht]
   rw [takeL_app bl u1 [v,x] h7]
   simp only [takeL,htv,htx]
 ·rw [hl] at h6
  simp only [if_true] at h6 ⊢
  obtain ⟨v,u3,rfl,g1,g2,g3,g4⟩:=sm_cons h6
  rw [sm_nil g4]
  have hkv:v.k = 3:=by have:(v.k:Int) = 3:=g1;omega
  have htv:takeT bl ⟨op ++ [pre.length],pre ++ [⟨(op.length:Int) + 1,u.nm,al,⟨#[]⟩,(u.p:Int)⟩]⟩ v = .ok ⟨op,pre ++ [⟨(op.length:Int) + 1,u.nm,al,⟨#[]⟩,(u.p:Int)⟩]⟩:=by
   unfold takeT
   rw [if_neg (by omega),if_neg (by omega),if_pos hkv]
   simp only [List.dropLast_concat]
  have hz:e.tx.size = 0:=by
   unfold leaf at hl
   simp only [Bool.and_eq_true,decide_eq_true_eq] at hl
   exact hl.2
  refine ⟨⟨(op.length:Int) + 1,u.nm,al,⟨#[]⟩,(u.p:Int)⟩,?_,sameE_mk hd hnm (size0 hz).symm h8⟩
  simp only [takeL,ht]
  rw [takeL_app bl u1 [v] h7]
  simp only [takeL,htv]
theorem nms_more {pre:List El} {op:List Nat} (h:∀ i ∈ op,i < pre.length) (x:List El):nmsOf (pre ++ x) op = nmsOf pre op:=by
 unfold nmsOf
 refine List.map_congr_left fun i hi=>?_
 rw [List.getElem?_append_left (h i hi)]
theorem nms_len {es:List El} {op:List Nat} {st:List ByteArray} (h:nmsOf es op = st.reverse.map some):op.length = st.length:=by
 have:=congrArg List.length h
 simpa [nmsOf] using this
theorem take_tree (bl:ByteArray → Bool):∀ (r:List El) (a:Int) (st:List ByteArray) (op:List Nat) (pre:List El) (us:List Tok),Sm us (pcsF r st) → Tr a r → (∀ e ∈ r,atE [] e.ats = 0) → nmsOf pre op = st.reverse.map some → (∀ i ∈ op,i < pre.length) →
  (∀ e ∈ r.head?,(e.d - 1).toNat ≤ st.length) → ((pre = [] ∧ ∀ e ∈ r.tail,2 ≤ e.d) ∨ ∀ e ∈ r,2 ≤ e.d) → pre.length + r.length ≤ 20000 →
  ∃ r',takeL bl us ⟨op,pre⟩ = .ok ⟨[],pre ++ r'⟩ ∧ sameEs r' r = true
 | [],a,st,op,pre,us,h,_,_,hn,_,_,_,_=>by
  unfold pcsF at h
  obtain ⟨op',h1,h2,-⟩:=take_shut bl pre 0 st op us h hn
  have h3:=nms_len h2
  have:op' = []:=List.eq_nil_of_length_eq_zero (by rw [h3];unfold cutS;simp)
  subst this
  exact ⟨[],by rw [List.append_nil];exact h1,rfl⟩
 | e :: r,a,st,op,pre,us,h,⟨t1,t2,t3,t4,t5⟩,hat,hn,hop,hst,hr,hl=>by
  rw [List.length_cons] at hl
  unfold pcsF at h
  obtain ⟨u1,u2,rfl,h1,h2⟩:=sm_app h
  obtain ⟨u3,u4,rfl,h3,h4⟩:=sm_app h2
  obtain ⟨op1,g1,g2,g3⟩:=take_shut bl pre (e.d - 1).toNat st op u1 h1 hn
  have hs:=hst e (by simp)
  have hcl:(cutS st (e.d - 1).toNat).length = (e.d - 1).toNat:=by unfold cutS;rw [List.length_drop];omega
  have hol:op1.length = (e.d - 1).toNat:=by rw [nms_len g2,hcl]
  have hop1:∀ i ∈ op1,i < pre.length:=fun i hi=>hop i (g3 i hi)
  obtain ⟨e',g4,g5⟩:=take_put bl op1 pre e (holdsB e r) u3 h3 (by rw [hol];omega) (by
   rintro ⟨q1,q2⟩
   rcases hr with hr | hr
   ·exact q2 hr.1
   ·have:=hr e (by simp)
    rw [q1] at hol
    simp at hol
    omega) (by omega) (by omega) (hat e (by simp)) t4.a24
  have hnm:e'.nm = e.nm:=by
   unfold sameE at g5
   simp only [Bool.and_eq_true,decide_eq_true_eq] at g5
   exact g5.2.1
  have hst2:∀ x ∈ r.head?,(x.d - 1).toNat ≤ (putS e (holdsB e r) (cutS st (e.d - 1).toNat)).length:=fun x hx=>by
   cases r with
   | nil=>cases hx
   | cons y r =>
    obtain rfl:y = x:=by simpa using hx
    have hy:=t5.2.1
    unfold putS
    split
    ·rename_i hlf
     unfold leaf holdsB at hlf
     simp only [Bool.and_eq_true,Bool.not_eq_true',decide_eq_false_iff_not] at hlf
     rw [hcl]
     omega
    ·rw [List.length_cons,hcl];omega
  obtain ⟨r',g6,g7⟩:=take_tree bl r e.d (putS e (holdsB e r) (cutS st (e.d - 1).toNat)) (if leaf e (holdsB e r) = true then op1 else op1 ++ [pre.length]) (pre ++ [e']) u4 h4 t5 (fun x hx=>hat x (by simp [hx])) (by
    unfold putS
    split
    ·rw [nms_more hop1];exact g2
    ·rw [List.reverse_cons,List.map_append]
     unfold nmsOf
     rw [List.map_append]
     have:=nms_more hop1 [e']
     unfold nmsOf at this g2
     rw [this,g2]
     simp [hnm]) (fun i hi=>by
    rw [List.length_append]
    split at hi
    ·have:=hop1 i hi;omega
    ·rcases List.mem_append.1 hi with hi | hi
     ·have:=hop1 i hi;omega
     ·rw [List.mem_singleton] at hi;simp;omega) hst2 (by
    right
    intro x hx
    rcases hr with hr | hr
    ·exact hr.2 x hx
    ·exact hr x (by simp [hx])) (by rw [List.length_append];simp;omega)
  refine ⟨e' :: r',?_,by unfold sameEs;rw [g5,g7];rfl⟩
  rw [takeL_app bl u1 _ g1,takeL_app bl u3 _ g4,g6,List.append_assoc]
  rfl
theorem chk_at:∀ (r:List El) (n:Nat) (ahead:Int),(chkF r n ahead).1 = 0 → ∀ e ∈ r,atE [] e.ats = 0
 | [],_,_,_,e,he=>by cases he
 | x :: r,n,ahead,h,e,he=>by
  unfold chkF at h
  split at h
  ·rename_i hx
   rcases List.mem_cons.1 he with rfl | he
   ·unfold elE at hx
    split at hx
    ·cases hx
    ·split at hx
     ·cases hx
     ·split at hx
      ·cases hx
      ·split at hx
       ·cases hx
       ·split at hx
        ·cases hx
        ·split at hx
         ·cases hx
         ·split at hx
          ·rename_i hy;exact absurd hx hy
          ·rename_i hy;simpa using hy
   ·exact chk_at r _ _ h e he
  ·rename_i hx;exact absurd h hx
theorem take_pcs (bl:ByteArray → Bool) {es:List El} (h:(chkZ es).1 = 0) {us:List Tok} (hu:Sm us (pcsF es [])):∃ es',takeL bl us ⟨[],[]⟩ = .ok ⟨[],es'⟩ ∧ sameEs es' es = true:=by
 cases es with
 | nil=>cases h
 | cons e r =>
  unfold chkZ at h
  rw [if_neg (List.cons_ne_nil _ _)] at h
  obtain ⟨ht,-,h3⟩:=chkF_ok _ _ _ h
  have h2:∀ x ∈ r,2 ≤ x.d:=by
   have hh:=h
   unfold chkF at hh
   split at hh
   ·exact (chkF_ok _ _ _ hh).2.1 (by omega)
   ·rename_i he;exact absurd hh he
  obtain ⟨r',g1,g2⟩:=take_tree bl (e :: r) 0 [] [] [] us hu ht (chk_at _ _ _ h) rfl (fun i hi=>by cases hi) (fun x hx=>by
   obtain rfl:e = x:=by simpa using hx
   have:=ht.1
   have:=ht.2.1
   simp
   omega) (.inl ⟨rfl,h2⟩) (by have:=h3 (List.cons_ne_nil _ _);simp at this ⊢;omega)
  exact ⟨r',by simpa using g1,g2⟩
theorem vx_chr {s:ByteArray} (h:VX (lOf s)):chrB s = true:=decide_eq_true ((chars_iff s).2 h)
structure Gd (e:El):Prop where
 nm:xmlNameB e.nm = true
 a24:e.ats.length ≤ 24
 at_:atE [] e.ats = 0
 tx:VX (lOf e.tx)
 d1:1 ≤ e.d
 d2:e.d ≤ 16
structure DOk (ds:List Int):Prop where
 nx:∀ (i:Nat) (a b:Int),ds[i]? = some a → ds[i + 1]? = some b → b ≤ a + 1 ∧ 2 ≤ b
 hd:∀ a,ds[0]? = some a → a = 1
structure TOk (s:PSt):Prop where
 gd:∀ e ∈ s.es,Gd e
 dp:DOk (s.es.map El.d)
 n:s.es.length ≤ 20000
 last:∀ a,(s.es.map El.d).getLast? = some a → (s.op.length:Int) ≤ a
 nil:s.es = [] → s.op = []
theorem atE_snoc:∀ (r l:List Att) (a:Att),atE l r = 0 → xmlNameB a.nm = true → chrB a.vl = true → hasA (l ++ r) a.nm = false → atE l (r ++ [a]) = 0
 | [],l,a,_,h1,h2,h3=>by
  rw [List.append_nil] at h3
  rw [List.nil_append,atE,if_pos ⟨h1,h2⟩,if_neg (by rw [h3];decide),atE]
 | b :: r,l,a,h,h1,h2,h3=>by
  rw [atE] at h
  split at h
  ·rename_i hb
   split at h
   ·cases h
   ·rename_i hc
    rw [List.cons_append,atE,if_pos hb,if_neg hc]
    exact atE_snoc r (l ++ [b]) a h h1 h2 (by rw [List.append_assoc];exact h3)
  ·cases h
theorem dok_snoc {ds:List Int} {x:Int} (h:DOk ds) (h1:ds = [] → x = 1) (h2:∀ a,ds.getLast? = some a → x ≤ a + 1 ∧ 2 ≤ x):DOk (ds ++ [x]):=by
 refine ⟨fun i a b ha hb=>?_,fun a ha=>?_⟩
 ·by_cases hi:i + 1 < ds.length
  ·rw [List.getElem?_append_left (by omega)] at ha
   rw [List.getElem?_append_left hi] at hb
   exact h.nx i a b ha hb
  ·have hlt:=(List.getElem?_eq_some_iff.1 hb).1
   rw [List.length_append] at hlt
   have hi2:i + 1 = ds.length:=by simp at hlt;omega
   rw [List.getElem?_append_left (by omega)] at ha
   rw [hi2] at hb
   have hx:x = b:=by simpa using hb
   subst hx
   refine h2 a ?_
   rw [List.getLast?_eq_getElem?,← hi2]
   exact ha
 ·cases ds with
  | nil =>
   have hx:x = a:=by simpa using ha
   rw [← hx]
   exact h1 rfl
  | cons y r=>exact h.hd a (by simpa using ha)
theorem map_set_d (es:List El) (i:Nat) (e e':El) (h:es[i]? = some e) (hd:e'.d = e.d):(es.set i e').map El.d = es.map El.d:=by
 apply List.ext_getElem?
 intro j
 rw [List.getElem?_map,List.getElem?_map,List.getElem?_set]
 split
 ·rename_i hj
  subst hj
  split
  ·rw [h];simp [hd]
  ·rename_i hl
   exact absurd (List.getElem?_eq_some_iff.1 h).1 hl
 ·rfl
theorem TOk.set {s:PSt} {i:Nat} {e e':El} (h:TOk s) (hi:s.es[i]? = some e) (hd:e'.d = e.d) (hg:Gd e'):TOk ⟨s.op,s.es.set i e'⟩:=by
 have hm:=map_set_d s.es i e e' hi hd
 refine ⟨fun x hx=>?_,by show DOk ((s.es.set i e').map El.d);rw [hm];exact h.dp,by show (s.es.set i e').length ≤ 20000;rw [List.length_set];exact h.n,fun a ha=>h.last a (by rw [← hm];exact ha),fun hn=>?_⟩
 ·rcases List.mem_or_eq_of_mem_set hx with h1 | h1
  ·exact h.gd x h1
  ·rw [h1];exact hg
 ·refine h.nil (List.eq_nil_of_length_eq_zero ?_)
  have:=congrArg List.length (show s.es.set i e' = [] from hn)
  rw [List.length_set] at this
  exact this
theorem TOk.less {s:PSt} (h:TOk s):TOk ⟨s.op.dropLast,s.es⟩ :=
 ⟨h.gd,h.dp,h.n,fun a ha=>by have:=h.last a ha;show ((s.op.dropLast).length:Int) ≤ a;rw [List.length_dropLast];omega,fun hn=>by show s.op.dropLast = [];rw [h.nil hn];rfl⟩
theorem takeT_tok {bl:ByteArray → Bool} {s s':PSt} {t:Tok} {last:Int} (hf:putE last t.it = 0) (h:takeT bl s t = .ok s') (hs:TOk s):TOk s':=by
 obtain ⟨k,hk,f⟩:=fits_of hf
 have hk2:t.k = k:=by have:(t.k:Int) = k:=hk;omega
 have fn:xmlNameB t.nm = true ∨ (t.k ≠ 0 ∧ t.k ≠ 1 ∧ t.k ≠ 4):=by
  by_cases h0:t.k = 0 ∨ t.k = 1 ∨ t.k = 4
  ·exact .inl (f.nm (by unfold shN;rw [← hk2];simpa using h0))
  ·exact .inr ⟨by omega,by omega,by omega⟩
 have fv:VX (lOf t.vl):=f.vx
 unfold takeT at h
 split at h
 ·rename_i h0
  have hnm:xmlNameB t.nm = true:=by
   rcases fn with fn | fn
   ·exact fn
   ·exact absurd h0 fn.1
  split at h
  ·cases h
  ·rename_i h1
   split at h
   ·cases h
   ·rename_i h2
    split at h
    ·cases h
    ·rename_i h3
     cases h
     have hop:s.op.length ≤ 16 ∨ s.es = []:=by
      by_cases he:s.es = []
      ·exact .inr he
      ·left
       have hne:(s.es.map El.d) ≠ []:=by simpa using he
       obtain ⟨a,ha⟩:∃ a,(s.es.map El.d).getLast? = some a:=⟨_,List.getLast?_eq_some_getLast hne⟩
       have h4:=hs.last a ha
       obtain ⟨e,he1,he2⟩:=List.mem_map.1 (List.mem_of_getLast? ha)
       have:=(hs.gd e he1).d2
       omega
     have hol:s.op.length < 16:=by
      rcases hop with hop | hop
      ·omega
      ·rw [hs.nil hop];decide
     refine ⟨fun e he=>?_,?_,?_,fun a ha=>?_,fun hn=>?_⟩
     ·rcases List.mem_append.1 he with he | he
      ·exact hs.gd e he
      ·rw [List.mem_singleton] at he
       subst he
       exact ⟨hnm,Nat.zero_le _,rfl,vx_nil,by show (1:Int) ≤ (s.op.length:Int) + 1;omega,by show (s.op.length:Int) + 1 ≤ 16;omega⟩
     ·rw [List.map_append]
      refine dok_snoc hs.dp (fun hn=>?_) fun a ha=>?_
      ·have:s.es = []:=by simpa using hn
       show (s.op.length:Int) + 1 = 1
       rw [hs.nil this]
       rfl
      ·have h4:=hs.last a ha
       have he:s.es ≠ []:=fun e=>by rw [e] at ha;cases ha
       have ho:s.op ≠ []:=fun e=>h1 ⟨e,he⟩
       have:=List.length_pos_iff.2 ho
       show (s.op.length:Int) + 1 ≤ a + 1 ∧ 2 ≤ (s.op.length:Int) + 1
       omega
     ·show (s.es ++ [_]).length ≤ 20000
      have:=hs.n
      rw [List.length_append]
      simp
      omega
     ·rw [List.map_append] at ha
      have:(s.op.length:Int) + 1 = a:=by simpa using ha
      show ((s.op ++ [s.es.length]).length:Int) ≤ a
      rw [List.length_append]
      simp
      omega
     ·simp at hn
 ·rename_i k0
  split at h
  ·rename_i k1
   have hnm:xmlNameB t.nm = true:=by
    rcases fn with fn | fn
    ·exact fn
    ·exact absurd k1 fn.2.1
   split at h
   ·cases h;exact hs
   ·rename_i i hi
    split at h
    ·cases h;exact hs
    ·rename_i e he
     split at h
     ·cases h
     ·rename_i h1
      split at h
      ·cases h
      ·rename_i h2
       cases h
       have g:=hs.gd e (List.mem_of_getElem? he)
       have h24:=g.a24
       exact hs.set he rfl ⟨g.nm,by show (e.ats ++ [_]).length ≤ 24;rw [List.length_append];simp;omega,atE_snoc e.ats [] _ g.at_ hnm (vx_chr fv) (by simpa using h1),g.tx,g.d1,g.d2⟩
  ·split at h
   ·cases h;exact hs.less
   ·split at h
    ·split at h
     ·cases h
     ·split at h
      ·cases h
      ·split at h
       ·cases h;exact hs.less
       ·cases h
    ·split at h
     ·split at h
      ·split at h
       ·cases h;exact hs
       ·cases h
      ·split at h
       ·cases h;exact hs
       ·rename_i e he
        cases h
        have g:=hs.gd e (List.mem_of_getElem? he)
        exact hs.set he rfl ⟨g.nm,g.a24,g.at_,by show VX (lOf (e.tx ++ t.vl));rw [lOf_append];exact vx_app g.tx fv,g.d1,g.d2⟩
     ·cases h;exact hs
theorem takeL_tok {bl:ByteArray → Bool}:∀ (us:List Tok) (last:Int) {s s':PSt},Chn last (us.map Tok.it) → takeL bl us s = .ok s' → TOk s → TOk s'
 | [],_,s,s',_,h,hs=>by cases h;exact hs
 | t :: us,last,s,s',hc,h,hs=>by
  simp only [takeL] at h
  cases hz:takeT bl s t with
  | error e=>rw [hz] at h;cases h
  | ok s1=>rw [hz] at h;exact takeL_tok us _ hc.2 h (takeT_tok hc.1 hz hs)
theorem TOk.new:TOk ⟨[],[]⟩:=⟨fun e he=>(by cases he),⟨fun i a b ha=>(by cases ha),fun a ha=>(by cases ha)⟩,Nat.zero_le _,fun a ha=>(by cases ha),fun _=>rfl⟩
theorem elE_of {n:Nat} {ahead:Int} {e:El} (g:Gd e) (h1:e.d ≤ ahead + 1) (h2:e.d = 1 → n = 0) (h3:n < 20000):elE n ahead e = 0:=by
 have:=g.d1
 have:=g.d2
 have:=g.a24
 unfold elE
 rw [if_neg (by omega),if_neg (by omega),if_neg (by omega),if_neg (by omega),if_neg (by rw [g.nm];decide),if_neg (by omega),if_neg (by rw [g.at_];simp),if_pos (vx_chr g.tx)]
theorem chkF_of:∀ (r pre:List El) (ahead:Int),(∀ e ∈ r,Gd e) → DOk ((pre ++ r).map El.d) → (pre = [] → ahead = 0) → (∀ a,(pre.map El.d).getLast? = some a → ahead = a) → (pre ++ r).length ≤ 20000 → chkF r pre.length ahead = (0,0)
 | [],_,_,_,_,_,_,_=>rfl
 | e :: r,pre,ahead,hg,hd,h0,h1,hn=>by
  have hlen:pre.length < 20000:=by rw [List.length_append,List.length_cons] at hn;omega
  have hat:((pre ++ e :: r).map El.d)[pre.length]? = some e.d:=by simp
  have he:elE pre.length ahead e = 0:=by
   cases hp:pre with
   | nil =>
    subst hp
    have:=hd.hd e.d (by simp)
    refine elE_of (hg e (by simp)) (by rw [h0 rfl];omega) (fun _=>rfl) (by decide)
   | cons x p =>
    rw [← hp]
    have hne:pre ≠ []:=by rw [hp];exact List.cons_ne_nil _ _
    have hne2:pre.map El.d ≠ []:=by simpa using hne
    have hla:=List.getLast?_eq_some_getLast hne2
    have ha:=h1 _ hla
    have hpos:=List.length_pos_iff.2 hne
    have hla2:((pre ++ e :: r).map El.d)[pre.length - 1]? = some ((pre.map El.d).getLast hne2):=by
     rw [List.map_append,List.getElem?_append_left (by rw [List.length_map];omega),← hla,List.getLast?_eq_getElem?,List.length_map]
    have hh:=hd.nx (pre.length - 1) _ _ hla2 (by rw [show pre.length - 1 + 1 = pre.length by omega];exact hat)
    exact elE_of (hg e (by simp)) (by rw [ha];exact hh.1) (fun q=>by omega) hlen
  rw [chkF,if_pos he]
  have:=chkF_of r (pre ++ [e]) e.d (fun x hx=>hg x (by simp [hx])) (by rw [List.append_assoc];exact hd) (fun q=>by simp at q) (fun a ha=>by
   rw [List.map_append,List.map_cons,List.map_nil,List.getLast?_concat] at ha
   exact Option.some.inj ha) (by rw [List.append_assoc];exact hn)
  rw [List.length_append] at this
  exact this
theorem TOk.chk {s:PSt} (h:TOk s) (hn:s.es ≠ []):chkZ s.es = (0,0):=by
 unfold chkZ
 rw [if_neg hn]
 exact chkF_of s.es [] 0 h.gd h.dp (fun _=>rfl) (fun a ha=>by cases ha) h.n
theorem sameA_iff {a b:Att} (h:sameA a b = true):a.nm = b.nm ∧ a.vl = b.vl:=by
 unfold sameA at h
 simpa using h
theorem sameAs_cons {a b:Att} {l m:List Att} (h:sameAs (a :: l) (b :: m) = true):a.nm = b.nm ∧ a.vl = b.vl ∧ sameAs l m = true:=by
 rw [sameAs,Bool.and_eq_true] at h
 exact ⟨(sameA_iff h.1).1,(sameA_iff h.1).2,h.2⟩
theorem sameE_iff {a b:El} (h:sameE a b = true):a.d = b.d ∧ a.nm = b.nm ∧ a.tx = b.tx ∧ sameAs a.ats b.ats = true:=by
 unfold sameE at h
 simpa using h
theorem sameEs_cons {a b:El} {l m:List El} (h:sameEs (a :: l) (b :: m) = true):sameE a b = true ∧ sameEs l m = true:=by
 rw [sameEs,Bool.and_eq_true] at h
 exact h
theorem pcA_same:∀ {l m:List Att},sameAs l m = true → l.map pcA = m.map pcA
 | [],[],_=>rfl
 | a :: l,b :: m,h=>by
  obtain ⟨h1,h2,h3⟩:=sameAs_cons h
  rw [List.map_cons,List.map_cons,pcA_same h3]
  unfold pcA
  rw [h1,h2]
 | [],_ :: _,h=>by cases h
 | _ :: _,[],h=>by cases h
theorem atE_same:∀ {l m l0 m0:List Att},sameAs l m = true → sameAs l0 m0 = true → atE l0 l = atE m0 m
 | [],[],_,_,_,_=>rfl
 | a :: l,b :: m,l0,m0,h,h0=>by
  obtain ⟨h1,h2,h3⟩:=sameAs_cons h
  have h4:sameA a b = true:=by unfold sameA;rw [decide_eq_true h1,decide_eq_true h2];rfl
  rw [atE,atE,h1,h2,hasA_same h0,atE_same h3 (sameAs_snoc h0 h4)]
 | [],_ :: _,_,_,h,_=>by cases h
 | _ :: _,[],_,_,h,_=>by cases h
theorem elE_same {a b:El} (h:sameE a b = true) (n:Nat) (ah:Int):elE n ah a = elE n ah b:=by
 obtain ⟨h1,h2,h3,h4⟩:=sameE_iff h
 unfold elE
 rw [h1,h2,h3,sameAs_len h4,atE_same h4 (l0:=[]) (m0:=[]) rfl]
theorem chkF_same:∀ {l m:List El} (n:Nat) (ah:Int),sameEs l m = true → chkF l n ah = chkF m n ah
 | [],[],_,_,_=>rfl
 | a :: l,b :: m,n,ah,h=>by
  obtain ⟨h1,h2⟩:=sameEs_cons h
  rw [chkF,chkF,elE_same h1,(sameE_iff h1).1,chkF_same (n + 1) b.d h2]
 | [],_ :: _,_,_,h=>by cases h
 | _ :: _,[],_,_,h=>by cases h
theorem sameEs_nil {l m:List El} (h:sameEs l m = true):l = [] ↔ m = []:=by
 cases l <;> cases m <;> simp_all [sameEs]
theorem chkZ_same {l m:List El} (h:sameEs l m = true):chkZ l = chkZ m:=by
 unfold chkZ
 rw [chkF_same 0 0 h]
 by_cases hl:l = []
 ·rw [if_pos hl,if_pos ((sameEs_nil h).1 hl)]
 ·rw [if_neg hl,if_neg (fun e=>hl ((sameEs_nil h).2 e))]
theorem holds_same {a b:El} {l m:List El} (h:sameE a b = true) (hl:sameEs l m = true):holdsB a l = holdsB b m:=by
 cases l with
 | nil =>
  cases m with
  | nil=>rfl
  | cons y m=>cases hl
 | cons x l =>
  cases m with
  | nil=>cases hl
  | cons y m =>
   show decide (a.d < x.d) = decide (b.d < y.d)
   rw [(sameE_iff h).1,(sameE_iff (sameEs_cons hl).1).1]
theorem pcsF_same:∀ {l m:List El} (st:List ByteArray),sameEs l m = true → pcsF l st = pcsF m st
 | [],[],_,_=>rfl
 | a :: l,b :: m,st,h=>by
  obtain ⟨h1,h2⟩:=sameEs_cons h
  obtain ⟨e1,e2,e3,e4⟩:=sameE_iff h1
  have hh:=holds_same h1 h2
  have hlf:∀ x,leaf a x = leaf b x:=fun x=>by unfold leaf;rw [e3]
  have hp:putP a (holdsB a l) = putP b (holdsB b m):=by unfold putP;rw [hh,hlf,e2,e3,pcA_same e4]
  have hs:∀ z,putS a (holdsB a l) z = putS b (holdsB b m) z:=fun z=>by unfold putS;rw [hh,hlf,e2]
  rw [pcsF,pcsF,hp,hs,e1,pcsF_same _ h2]
 | [],_ :: _,_,h=>by cases h
 | _ :: _,[],_,h=>by cases h
theorem sameAs_symm:∀ {l m:List Att},sameAs l m = true → sameAs m l = true
 | [],[],_=>rfl
 | a :: l,b :: m,h=>by
  obtain ⟨h1,h2,h3⟩:=sameAs_cons h
  rw [sameAs,sameAs_symm h3]
  unfold sameA
  rw [decide_eq_true h1.symm,decide_eq_true h2.symm]
  rfl
 | [],_ :: _,h=>by cases h
 | _ :: _,[],h=>by cases h
theorem sameEs_symm:∀ {l m:List El},sameEs l m = true → sameEs m l = true
 | [],[],_=>rfl
 | a :: l,b :: m,h=>by
  obtain ⟨h1,h2⟩:=sameEs_cons h
  obtain ⟨e1,e2,e3,e4⟩:=sameE_iff h1
  rw [sameEs,sameEs_symm h2,sameE_mk e1.symm e2.symm e3.symm (sameAs_symm e4)]
  rfl
 | [],_ :: _,h=>by cases h
 | _ :: _,[],h=>by cases h
theorem dr_some {s:ByteArray} {q:Nat} (h:q < s.size):∃ c l,Dr s q = c :: l ∧ ch s q = c.toNat:=by
 have hl:q < s.data.toList.length:=by rw [tl_len];exact h
 have e:Dr s q = s.data.toList[q] :: s.data.toList.drop (q + 1):=List.drop_eq_getElem_cons hl
 exact ⟨_,_,e,(dr_cons e).2.1⟩
theorem no_gt {s:ByteArray} {a:Nat} (h:(62:UInt8) ∉ Dr s a):∀ q,a ≤ q → q < s.size → ch s q ≠ 62:=fun q ha hq hc=>by
 obtain ⟨c,l,e,e2⟩:=dr_some hq
 have hm:c ∈ Dr s a:=by
  have:Dr s q = (Dr s a).drop (q - a):=by
   unfold Dr
   rw [List.drop_drop]
   congr 1
   omega
  rw [e] at this
  exact List.mem_of_mem_drop (i:=q - a) (by rw [← this];simp)
 have:c = 62:=UInt8.toNat_inj.1 (by rw [← e2,hc];rfl)
 rw [this] at hm
 exact h hm
theorem inTag_gt {s:ByteArray} {a:Nat} {nx:Option Nat} {b:Nat} {t:Tok} (ha:a ≤ s.size) (h:pieceZ s (some 153) a = .told nx b t):nx = some 153 ∨ ∃ q,a ≤ q ∧ q < s.size ∧ ch s q = 62:=by
 replace h:runZ s 2 (some 153) a = .told nx b t:=h
 have hk:=skN_le s a ha
 rw [runZ,stepZ_inTag] at h
 unfold inTagZ at h
 generalize skN s a = p at h hk
 by_cases h1:s.size ≤ p
 ·rw [if_pos h1] at h;cases h
 ·rw [if_neg h1] at h
  by_cases h2:ch s p = 62
  ·exact .inr ⟨p,hk.1,by omega,h2⟩
  ·rw [if_neg h2] at h
   by_cases h3:ch s p = 47
   ·rw [if_pos h3] at h
    simp only [runZ,stepZ_emptyEnd] at h
    unfold emptyEndZ at h
    cases hx:expZ s (p + 1) 62 with
    | some ep=>rw [hx] at h;cases h
    | none =>
     have:=expZ_none hx
     exact .inr ⟨p + 1,by omega,this.1,this.2⟩
   ·rw [if_neg h3] at h
    by_cases h4:a < p
    ·rw [if_pos h4] at h
     simp only [runZ,stepZ_attribute] at h
     unfold attrZ at h
     cases hn:nameZ s p with
     | bad e q=>rw [hn] at h;cases h
     | val nm b1 =>
      rw [hn] at h
      dsimp only at h
      cases hx:expZ s (skN s b1) 61 with
      | some ep=>rw [hx] at h;cases h
      | none =>
       rw [hx] at h
       dsimp only at h
       cases hva:valueZ s (skN s (skN s b1 + 1)) with
       | bad e q=>rw [hva] at h;cases h
       | val vl c =>
        rw [hva] at h
        dsimp only at h
        injection h with h5 _ _
        exact .inl h5.symm
    ·rw [if_neg h4] at h;cases h
theorem inTag_end {s:ByteArray} {a b:Nat} (h:pieceZ s (some 153) a = .end_ b):False:=by
 replace h:runZ s 2 (some 153) a = .end_ b:=h
 rw [runZ,stepZ_inTag] at h
 unfold inTagZ at h
 generalize skN s a = p at h
 by_cases h1:s.size ≤ p
 ·rw [if_pos h1] at h;cases h
 ·rw [if_neg h1] at h
  by_cases h2:ch s p = 62
  ·rw [if_pos h2] at h
   simp only [runZ,stepZ_tagEnd,tagEndZ] at h
   cases h
  ·rw [if_neg h2] at h
   by_cases h3:ch s p = 47
   ·rw [if_pos h3] at h
    simp only [runZ,stepZ_emptyEnd] at h
    unfold emptyEndZ at h
    cases hx:expZ s (p + 1) 62 with
    | some ep=>rw [hx] at h;cases h
    | none=>rw [hx] at h;cases h
   ·rw [if_neg h3] at h
    by_cases h4:a < p
    ·rw [if_pos h4] at h
     simp only [runZ,stepZ_attribute] at h
     unfold attrZ at h
     cases hn:nameZ s p with
     | bad e q=>rw [hn] at h;cases h
     | val nm b1 =>
      rw [hn] at h
      dsimp only at h
      cases hx:expZ s (skN s b1) 61 with
      | some ep=>rw [hx] at h;cases h
      | none =>
       rw [hx] at h
       dsimp only at h
       cases hva:valueZ s (skN s (skN s b1 + 1)) with
       | bad e q=>rw [hva] at h;cases h
       | val vl c=>rw [hva] at h;cases h
    ·rw [if_neg h4] at h;cases h
theorem inTag_no (s:ByteArray) (hs:s.size ≤ 1048576) (n:Nat):∀ (a:Nat) (us:List Tok),s.size - a < n → a ≤ s.size → (∀ q,a ≤ q → q < s.size → ch s q ≠ 62) → toksZ s (some 153) a = (us,none) → False:=by
 induction n with
 | zero=>intro a us h;omega
 | succ n ih =>
  intro a us hn ha hg h
  have hok:okO s a (some 153):=ok_st 0 hs ha
  obtain ⟨x,hp⟩:∃ x,pieceZ s (some 153) a = x:=⟨_,rfl⟩
  cases x with
  | bad e p=>rw [toksZ_bad hp] at h;cases h
  | end_ b=>exact inTag_end hp
  | told nx b t =>
   obtain ⟨hb1,hb2,-⟩:=piece_told hok hp
   rcases inTag_gt ha hp with h0 | ⟨q,h1,h2,h3⟩
   ·rw [toksZ_told hok hp] at h
    have h4:=congrArg Prod.snd h
    dsimp only at h4
    rw [h0] at h4
    exact ih b (toksZ s (some 153) b).1 (by omega) hb2 (fun q h1 h2=>hg q (by omega) h2) (Prod.ext rfl h4)
   ·exact hg q h1 h2 h3
theorem content_no {s:ByteArray} (hs:s.size ≤ 1048576) {a:Nat} {us:List Tok} (ha:a < s.size) (h60:ch s a = 60) (h33:¬ (a + 1 < s.size ∧ ch s (a + 1) = 33)) (hg:∀ q,a ≤ q → q < s.size → ch s q ≠ 62) (h:toksZ s (some 88) a = (us,none)):False:=by
 have hok:okO s a (some 88):=ok_st 2 hs (by omega)
 obtain ⟨x,hp⟩:∃ x,pieceZ s (some 88) a = x:=⟨_,rfl⟩
 cases x with
 | bad e p=>rw [toksZ_bad hp] at h;cases h
 | end_ b =>
  replace hp:runZ s 2 (some 88) a = .end_ b:=hp
  by_cases h47:a + 1 < s.size ∧ ch s (a + 1) = 47
  ·have hz:contentZ s a = .go (some 114) a none:=by unfold contentZ;rw [if_neg (by omega),if_pos h60,if_pos h47]
   simp only [runZ,stepZ_content,hz,stepZ_endTag] at hp
   unfold endZ at hp
   cases hn:nameZ s (a + 2) with
   | bad e q=>rw [hn] at hp;cases hp
   | val nm b1 =>
    rw [hn] at hp
    dsimp only at hp
    cases hx:expZ s (skN s b1) 62 with
    | some ep=>rw [hx] at hp;cases hp
    | none=>rw [hx] at hp;cases hp
  ·by_cases h63:a + 1 < s.size ∧ ch s (a + 1) = 63
   ·have hz:contentZ s a = .bad 44 a:=by unfold contentZ;rw [if_neg (by omega),if_pos h60,if_neg h47,if_neg h33,if_pos h63]
    simp only [runZ,stepZ_content,hz] at hp
    cases hp
   ·have hz:contentZ s a = .go (some 116) a none:=by unfold contentZ;rw [if_neg (by omega),if_pos h60,if_neg h47,if_neg h33,if_neg h63]
    simp only [runZ,stepZ_content,hz,stepZ_startTag] at hp
    unfold startZ at hp
    cases hn:nameZ s (a + 1) with
    | bad e q=>rw [hn] at hp;cases hp
    | val nm b1=>rw [hn] at hp;cases hp
 | told nx b t =>
  obtain ⟨hb1,hb2,-⟩:=piece_told hok hp
  have hp0:=hp
  replace hp:runZ s 2 (some 88) a = .told nx b t:=hp
  by_cases h47:a + 1 < s.size ∧ ch s (a + 1) = 47
  ·have hz:contentZ s a = .go (some 114) a none:=by unfold contentZ;rw [if_neg (by omega),if_pos h60,if_pos h47]
   simp only [runZ,stepZ_content,hz,stepZ_endTag] at hp
   unfold endZ at hp
   cases hn:nameZ s (a + 2) with
   | bad e q=>rw [hn] at hp;cases hp
   | val nm b1 =>
    rw [hn] at hp
    dsimp only at hp
    cases hx:expZ s (skN s b1) 62 with
    | some ep=>rw [hx] at hp;cases hp
    | none =>
     rw [hx] at hp
     dsimp only at hp
     injection hp with _ e2 _
     have:=expZ_none hx
     exact hg (skN s b1) (by omega) this.1 this.2
  ·by_cases h63:a + 1 < s.size ∧ ch s (a + 1) = 63
   ·have hz:contentZ s a = .bad 44 a:=by unfold contentZ;rw [if_neg (by omega),if_pos h60,if_neg h47,if_neg h33,if_pos h63]
    simp only [runZ,stepZ_content,hz] at hp
    cases hp
   ·have hz:contentZ s a = .go (some 116) a none:=by unfold contentZ;rw [if_neg (by omega),if_pos h60,if_neg h47,if_neg h33,if_neg h63]
    simp only [runZ,stepZ_content,hz,stepZ_startTag] at hp
    unfold startZ at hp
    cases hn:nameZ s (a + 1) with
    | bad e q=>rw [hn] at hp;cases hp
    | val nm b1 =>
     rw [hn] at hp
     dsimp only at hp
     injection hp with e1 _ _
     rw [toksZ_told hok hp0] at h
     have h4:=congrArg Prod.snd h
     dsimp only at h4
     rw [← e1] at h4
     exact inTag_no s hs (s.size - b + 1) b (toksZ s (some 153) b).1 (by omega) hb2 (fun q h1 h2=>hg q (by omega) h2) (Prod.ext rfl h4)
def Prt (us:List Tok) (ts:List IT):Prop:=∃ ts1 t ts2,ts = ts1 ++ t :: ts2 ∧ (Sm us ts1 ∨ ∃ us1 u,us = us1 ++ [u] ∧ Sm us1 ts1 ∧ u.k = 5)
theorem prt_nil (t:IT) (ts:List IT):Prt [] (t :: ts):=⟨[],t,ts,rfl,.inl trivial⟩
theorem prt_cons {u:Tok} {us:List Tok} {t:IT} {ts:List IT} (h1:(u.k:Int) = t.k) (h2:u.nm = t.nm) (h3:u.vl = t.vl) (h:Prt us ts):Prt (u :: us) (t :: ts):=by
 obtain ⟨ts1,x,ts2,rfl,h | ⟨us1,v,rfl,h4,h5⟩⟩:=h
 ·exact ⟨t :: ts1,x,ts2,rfl,.inl ⟨h1,h2,h3,h⟩⟩
 ·exact ⟨t :: ts1,x,ts2,rfl,.inr ⟨u :: us1,v,rfl,⟨h1,h2,h3,h4⟩,h5⟩⟩
theorem esc_no62 (attr:Bool) (vl:ByteArray) {b:UInt8} (hb:b ∈ (escB attr vl).data.toList):b.toNat ≠ 62:=by
 unfold escB sOf at hb
 simp only [List.mem_map] at hb
 obtain ⟨c,hc,rfl⟩:=hb
 have:=esc_clean attr (lOf vl) (lOf_lt vl) c hc
 have e:(UInt8.ofNat c).toNat = c:=by simp [UInt8.toNat_ofNat'];omega
 rw [e]
 exact this.2.2.1
theorem name_no62 {nm:ByteArray} (h:xmlNameB nm = true):(62:UInt8) ∉ nm.data.toList:=fun hb=>by
 have:=name_byte h hb
 have e:(62:UInt8).toNat = 62:=rfl
 omega
theorem toks_stop {s:ByteArray} {a:Nat} {us:List Tok} (h:Dr s a = []) (hu:toksZ s (some 88) a = (us,none)):us = []:=by
 rw [toksZ_end (p_stop h)] at hu
 injection hu with h1 _
 exact h1.symm
theorem take_cons_pos {α:Type} (c:α) (l:List α) {n:Nat} (h:0 < n):(c :: l).take n = c :: l.take (n - 1):=by
 obtain ⟨m,rfl⟩:∃ m,n = m + 1:=⟨n - 1,by omega⟩
 rfl
theorem cut_main (p:ByteArray) (hs:p.size ≤ 1048576) (ts:List IT):∀ (last:Int) (a n:Nat) (us:List Tok),Chn last ts → last ≠ -1 → (∀ t ∈ ts,t.k ≤ 5) → a ≤ p.size → Dr p a = (fl ts).take n → n < (fl ts).length → toksZ p (some (stN last)) a = (us,none) → Prt us ts:=by
 induction ts with
 | nil=>intro last a n us _ _ _ _ _ h;exact absurd h (Nat.not_lt_zero n)
 | cons t ts ih =>
  intro last a n us hc hl h5 ha hD hn hu
  obtain ⟨k,hk,f⟩:=fits_of hc.1
  have hc2:=hc.2
  rw [hk] at hc2
  have hk5:k ≤ 5:=by have:=h5 t (by simp);omega
  have hw:wL t = (wrB k t.nm t.vl).data.toList:=by unfold wL;rw [hk,Int.toNat_natCast]
  rw [fl_cons,hw] at hD hn
  by_cases hfull:(wrB k t.nm t.vl).data.toList.length ≤ n ∧ (k = 0 → (wrB k t.nm t.vl).data.toList.length < n)
  ·rw [List.take_append,List.take_of_length_le hfull.1] at hD
   rw [List.length_append] at hn
   obtain ⟨q,hp,hp1,hp2⟩:=piece_back f (by omega) hD (fun h0=>by
    obtain ⟨c,y',e,hcc⟩:=behind_open (by subst h0;exact hc2)
    have:=hfull.2 h0
    rw [e,take_cons_pos c y' (by omega)]
    exact ⟨c,_,rfl,hcc⟩) (fun h0=>by
    rcases behind_text (by subst h0;exact hc2) with e | ⟨y',e⟩
    ·rw [e];simp
    ·rw [e]
     by_cases hz:0 < n - (wrB k t.nm t.vl).data.toList.length
     ·rw [take_cons_pos _ _ hz];exact .inr ⟨_,rfl⟩
     ·rw [show n - (wrB k t.nm t.vl).data.toList.length = 0 by omega];exact .inl rfl)
   rw [toksZ_told (ok_st last hs ha) hp] at hu
   injection hu with e1 e2
   have hb:=dr_le ha hD
   have hD2:=dr_app hD
   have:=ih (k:Int) _ (n - (wrB k t.nm t.vl).data.toList.length) (toksZ p (some (stN (k:Int))) (a + (wrB k t.nm t.vl).data.toList.length)).1 hc2 (by omega) (fun x hx=>h5 x (by simp [hx])) hb hD2 (by omega) (Prod.ext rfl e2)
   rw [← e1]
   exact prt_cons hk.symm rfl rfl this
  ·have hnl:n ≤ (wrB k t.nm t.vl).data.toList.length:=by
    by_cases h1:(wrB k t.nm t.vl).data.toList.length ≤ n
    ·have h2:¬ (k = 0 → (wrB k t.nm t.vl).data.toList.length < n):=fun h=>hfull ⟨h1,h⟩
     by_cases h0:k = 0
     ·have:¬ (wrB k t.nm t.vl).data.toList.length < n:=fun h=>h2 fun _=>h
      omega
     ·exact absurd (fun h=>absurd h h0) h2
    ·omega
   have hnl0:k ≠ 0 → n < (wrB k t.nm t.vl).data.toList.length:=fun h0=>by
    by_cases h1:(wrB k t.nm t.vl).data.toList.length ≤ n
    ·exact absurd ⟨h1,fun h=>absurd h h0⟩ hfull
    ·omega
   rw [List.take_append,show n - (wrB k t.nm t.vl).data.toList.length = 0 by omega,List.take_zero,List.append_nil] at hD
   have tagNo:inT last = true → (62:UInt8) ∉ Dr p a → Prt us (t :: ts):=fun hi h62=>by
    unfold stN at hu
    rw [if_pos hi] at hu
    exact absurd hu fun h=>inTag_no p hs _ a us (Nat.lt_succ_self _) ha (no_gt h62) h
   have cont:inT last = false → toksZ p (some 88) a = (us,none):=fun hi=>by
    unfold stN at hu
    rw [if_neg (by rw [hi];decide)] at hu
    exact hu
   have conNo:inT last = false → ∀ l:List UInt8,Dr p a = 60 :: l → (∀ c l',l = c :: l' → c.toNat ≠ 33) → (62:UInt8) ∉ Dr p a → Prt us (t :: ts):=fun hi l e h33 h62=>by
    obtain ⟨g1,g2,g3⟩:=dr_at 60 e rfl
    refine absurd (cont hi) fun h=>content_no hs g1 g2 ?_ (no_gt h62) h
    rintro ⟨q1,q2⟩
    obtain ⟨c,l',e2,e3⟩:=dr_some q1
    rw [g3] at e2
    exact h33 c l' e2 (by omega)
   have hcases:k = 0 ∨ k = 1 ∨ k = 2 ∨ k = 3 ∨ k = 4 ∨ k = 5:=by omega
   rcases hcases with rfl | rfl | rfl | rfl | rfl | rfl
   ·
    have hi:inT last = false:=f.tag.symm
    have hnm:=f.nm rfl
    rw [wl0] at hD
    by_cases hz:n = 0
    ·subst hz
     rw [toks_stop hD (cont hi)]
     exact prt_nil _ _
    ·rw [take_cons_pos _ _ (by omega)] at hD
     refine conNo hi _ hD (fun c l' e=>?_) (fun hm=>?_)
     ·have hcm:c ∈ t.nm.data.toList:=List.mem_of_mem_take (i:=n - 1) (by rw [e];simp)
      have:=name_byte hnm hcm
      omega
     ·rw [hD] at hm
      rcases List.mem_cons.1 hm with h | h
      ·exact absurd h (by decide)
      ·exact name_no62 hnm (List.mem_of_mem_take h)
   ·
    refine tagNo f.tag.symm fun hm=>?_
    rw [hD,wl1] at hm
    have hm:=List.mem_of_mem_take hm
    rcases List.mem_cons.1 hm with h | h
    ·exact absurd h (by decide)
    ·rcases List.mem_append.1 h with h | h
     ·exact name_no62 (f.nm rfl) h
     ·rcases List.mem_cons.1 h with h | h
      ·exact absurd h (by decide)
      ·rcases List.mem_cons.1 h with h | h
       ·exact absurd h (by decide)
       ·rcases List.mem_append.1 h with h | h
        ·exact esc_no62 true t.vl h rfl
        ·simp at h
   ·refine tagNo f.tag.symm fun hm=>?_
    have hn0:=hnl0 (by decide)
    rw [wl2] at hn0
    have:n = 0:=by simpa using hn0
    rw [hD,this] at hm
    simp at hm
   ·refine tagNo f.tag.symm fun hm=>?_
    have hn0:=hnl0 (by decide)
    rw [wl3] at hn0
    rw [hD,wl3] at hm
    have hn2:n = 0 ∨ n = 1:=by simp at hn0;omega
    rcases hn2 with rfl | rfl <;> simp at hm
   ·
    have hi:inT last = false:=f.tag.symm
    have hnm:=f.nm rfl
    have hn0:=hnl0 (by decide)
    rw [wl4] at hD hn0
    by_cases hz:n = 0
    ·subst hz
     rw [toks_stop hD (cont hi)]
     exact prt_nil _ _
    ·rw [take_cons_pos _ _ (by omega)] at hD
     refine conNo hi _ hD (fun c l' e=>?_) (fun hm=>?_)
     ·by_cases hz1:0 < n - 1
      ·rw [take_cons_pos _ _ hz1] at e
       injection e with e1 _
       rw [← e1]
       decide
      ·rw [show n - 1 = 0 by omega] at e
       cases e
     ·rw [hD] at hm
      rcases List.mem_cons.1 hm with h | h
      ·exact absurd h (by decide)
      ·by_cases hz1:0 < n - 1
       ·rw [take_cons_pos _ _ hz1] at h
        rcases List.mem_cons.1 h with h | h
        ·exact absurd h (by decide)
        ·simp only [List.length_cons,List.length_append,List.length_nil] at hn0
         rw [List.take_append_of_le_length (by omega)] at h
         exact name_no62 hnm (List.mem_of_mem_take h)
       ·rw [show n - 1 = 0 by omega] at h
        cases h
   ·
    have hi:inT last = false:=f.tag.symm
    rw [wl5] at hD
    by_cases hz:n = 0
    ·subst hz
     rw [toks_stop hD (cont hi)]
     exact prt_nil _ _
    ·have hok:okO p a (some 88):=ok_st 2 hs ha
     have hu2:=cont hi
     have hno:∀ b ∈ (escB false t.vl).data.toList.take n,List.contains [60] b = false:=fun b hb=>by
      have:=esc_byte false t.vl (List.mem_of_mem_take hb)
      simp only [List.contains_cons,List.contains_nil,Bool.or_false]
      exact byte_ne this.1
     have hup:upN [60] p a = p.size:=by
      rw [upN_none hD hno]
      have:=congrArg List.length hD
      rw [List.length_drop,tl_len] at this
      omega
     have hpos:a < p.size:=by
      have hl2:=congrArg List.length hD
      rw [List.length_drop,tl_len,List.length_take] at hl2
      have hn0:=hnl0 (by decide)
      rw [wl5] at hn0
      omega
     obtain ⟨c,l,e,e2⟩:=dr_some hpos
     have hc60:ch p a ≠ 60:=fun h=>by
      have hm:c ∈ (escB false t.vl).data.toList:=List.mem_of_mem_take (i:=n) (by rw [← hD,e];simp)
      have:=(esc_byte false t.vl hm).1
      omega
     have hz1:contentZ p a = .go (some 113) a none:=by
      unfold contentZ
      rw [if_neg (by omega),if_neg hc60]
     obtain ⟨x,hx⟩:∃ x,plainZ (p.extract a (upN [60] p a)) a = x:=⟨_,rfl⟩
     obtain ⟨o,tv⟩:=x
     cases o with
     | some ep =>
      have hp:pieceZ p (some 88) a = .bad ep.1 ep.2:=by
       show runZ p 2 _ a = _
       simp only [runZ,stepZ_content,hz1,stepZ_text]
       unfold textZ
       rw [hx]
      rw [toksZ_bad hp] at hu2
      cases hu2
     | none =>
      have hp:pieceZ p (some 88) a = .told (some 88) p.size ⟨5,E0,tv,a⟩:=by
       show runZ p 2 _ a = _
       simp only [runZ,stepZ_content,hz1,stepZ_text]
       unfold textZ
       rw [hx,hup]
      rw [toksZ_told hok hp] at hu2
      have hst:Dr p p.size = []:=by unfold Dr;rw [← tl_len];exact List.drop_length
      rw [toksZ_end (p_stop hst)] at hu2
      injection hu2 with e1 _
      rw [← e1]
      exact ⟨[],t,ts,rfl,.inr ⟨[],_,rfl,trivial,rfl⟩⟩
def balK (k:Int):Int:=if k = 0 then 1 else if k = 3 ∨ k = 4 then -1 else 0
def bal:List IT → Int
 | []=>0
 | t :: ts=>balK t.k + bal ts
def balT:List Tok → Int
 | []=>0
 | t :: ts=>balK (t.k:Int) + balT ts
theorem bal_app:∀ a b:List IT,bal (a ++ b) = bal a + bal b
 | [],b=>by simp [bal]
 | t :: a,b=>by rw [List.cons_append,bal,bal,bal_app a b];omega
theorem balT_app:∀ a b:List Tok,balT (a ++ b) = balT a + balT b
 | [],b=>by simp [balT]
 | t :: a,b=>by rw [List.cons_append,balT,balT,balT_app a b];omega
theorem sm_bal:∀ {us:List Tok} {ts:List IT},Sm us ts → balT us = bal ts
 | [],[],_=>rfl
 | u :: us,t :: ts,h=>by rw [balT,bal,h.1,sm_bal h.2.2.2]
 | [],_ :: _,h=>by cases h
 | _ :: _,[],h=>by cases h
theorem takeT_bal {bl:ByteArray → Bool} {s s':PSt} {t:Tok} (h:takeT bl s t = .ok s'):(s.op.length:Int) + balK (t.k:Int) ≤ s'.op.length:=by
 unfold takeT at h
 unfold balK
 split at h
 ·rename_i h0
  rw [if_pos (by omega)]
  split at h
  ·cases h
  ·split at h
   ·cases h
   ·split at h
    ·cases h
    ·cases h
     simp
 ·rename_i h0
  rw [if_neg (by omega)]
  split at h
  ·rename_i h1
   rw [if_neg (by omega)]
   split at h
   ·cases h;simp
   ·split at h
    ·cases h;simp
    ·split at h
     ·cases h
     ·split at h
      ·cases h
      ·cases h;simp
  ·split at h
   ·rename_i h3
    rw [if_pos (by omega)]
    cases h
    simp only [List.length_dropLast]
    omega
   ·split at h
    ·rename_i h4
     rw [if_pos (by omega)]
     split at h
     ·cases h
     ·split at h
      ·cases h
      ·split at h
       ·cases h
        simp only [List.length_dropLast]
        omega
       ·cases h
    ·rw [if_neg (by omega)]
     split at h
     ·split at h
      ·split at h
       ·cases h;simp
       ·cases h
      ·split at h
       ·cases h;simp
       ·cases h;simp
     ·cases h;simp
theorem takeL_bal {bl:ByteArray → Bool}:∀ (us:List Tok) {s s':PSt},takeL bl us s = .ok s' → (s.op.length:Int) + balT us ≤ s'.op.length
 | [],s,s',h=>by cases h;simp [balT]
 | t :: us,s,s',h=>by
  simp only [takeL] at h
  cases hz:takeT bl s t with
  | error e=>rw [hz] at h;cases h
  | ok s1 =>
   rw [hz] at h
   have h1:=takeT_bal hz
   have h2:=takeL_bal us h
   rw [balT]
   omega
theorem split_app {α:Type}:∀ (a b ts1:List α) (t:α) (ts2:List α),a ++ b = ts1 ++ t :: ts2 → (∃ a2,a = ts1 ++ t :: a2) ∨ ∃ r,ts1 = a ++ r ∧ b = r ++ t :: ts2
 | [],b,ts1,t,ts2,h=>.inr ⟨ts1,rfl,h⟩
 | x :: a,b,[],t,ts2,h=>by
  injection h with h1 _
  exact .inl ⟨a,by rw [h1];rfl⟩
 | x :: a,b,y :: ts1,t,ts2,h=>by
  injection h with h1 h2
  rcases split_app a b ts1 t ts2 h2 with ⟨a2,e⟩ | ⟨r,e1,e2⟩
  ·exact .inl ⟨a2,by rw [h1,e];rfl⟩
  ·exact .inr ⟨r,by rw [h1,e1];rfl,e2⟩
theorem bal_closes:∀ l:List ByteArray,bal (l.map pcC) = -(l.length:Int)
 | []=>rfl
 | a :: l=>by rw [List.map_cons,bal,bal_closes l,List.length_cons];show -1 + _ = _;omega
theorem bal_prefix_closes {l:List ByteArray} {ts1:List IT} {t:IT} {a2:List IT} (h:l.map pcC = ts1 ++ t :: a2):bal ts1 = -(ts1.length:Int) ∧ ts1.length + 1 ≤ l.length:=by
 have hlen:=congrArg List.length h
 rw [List.length_map,List.length_append,List.length_cons] at hlen
 have e:ts1 = (l.take ts1.length).map pcC:=by
  rw [List.map_take,h,List.take_left']
  rfl
 refine ⟨?_,by omega⟩
 rw [e,bal_closes,List.length_map]
theorem bal_ats:∀ l:List Att,bal (l.map pcA) = 0
 | []=>rfl
 | a :: l=>by rw [List.map_cons,bal,bal_ats l];rfl
theorem bal_putP (e:El) (h:Bool):bal (putP e h) = if leaf e h = true then 0 else 1:=by
 unfold putP
 rw [bal,bal_app,bal_ats]
 split
 ·rfl
 ·split <;> rfl
theorem bal_ats_prefix {l:List Att} {ts1:List IT} {t:IT} {a2:List IT} (h:l.map pcA = ts1 ++ t :: a2):bal ts1 = 0:=by
 have e:ts1 = (l.take ts1.length).map pcA:=by
  rw [List.map_take,h,List.take_left']
  rfl
 rw [e,bal_ats]
theorem bal_put_prefix {e:El} {h:Bool} {ts1:List IT} {t:IT} {a2:List IT} (hh:putP e h = ts1 ++ t :: a2):(ts1 = [] ∨ bal ts1 = 1):=by
 cases ts1 with
 | nil=>exact .inl rfl
 | cons x r =>
  right
  unfold putP at hh
  injection hh with h1 h2
  rw [← h1,bal]
  have hr:bal r = 0:=by
   rcases split_app _ _ r t a2 h2 with ⟨a3,e3⟩ | ⟨r2,e3,e4⟩
   ·exact bal_ats_prefix e3
   ·rw [e3,bal_app,bal_ats]
    split at e4
    ·cases r2 with
     | nil=>rfl
     | cons y r2 =>
      injection e4 with _ e5
      have:=congrArg List.length e5
      simp at this
    ·split at e4
     ·cases r2 with
      | nil=>rfl
      | cons y r2 =>
       injection e4 with _ e5
       have:=congrArg List.length e5
       simp at this
     ·cases r2 with
      | nil=>rfl
      | cons y r2 =>
       injection e4 with e5 e6
       cases r2 with
       | nil=>rw [← e5];rfl
       | cons z r2 =>
        injection e6 with _ e7
        have:=congrArg List.length e7
        simp at this
  rw [hr]
  rfl
theorem bal_shut (st:List ByteArray) (d:Nat):bal (shutL st d) + st.length = (cutS st d).length:=by
 unfold shutL cutS
 rw [bal_closes,List.length_take,List.length_drop]
 omega
theorem bal_pcs:∀ (r:List El) (st:List ByteArray) (ts1:List IT) (t:IT) (ts2:List IT),(∀ e ∈ r,2 ≤ e.d) → 1 ≤ st.length → pcsF r st = ts1 ++ t :: ts2 → 1 ≤ bal ts1 + st.length
 | [],st,ts1,t,ts2,_,hs,h=>by
  unfold pcsF shutL at h
  rw [Nat.sub_zero,List.take_length] at h
  have:=bal_prefix_closes h
  omega
 | e :: r,st,ts1,t,ts2,hr,hs,h=>by
  have hd:=hr e (by simp)
  have hc:1 ≤ (cutS st (e.d - 1).toNat).length:=by unfold cutS;rw [List.length_drop];omega
  have hb:=bal_shut st (e.d - 1).toNat
  rw [pcsF] at h
  rcases split_app _ _ ts1 t ts2 h with ⟨a2,e1⟩ | ⟨r1,e1,e2⟩
  ·unfold shutL at e1
   have:=bal_prefix_closes e1
   rw [List.length_take] at this
   omega
  ·rw [e1,bal_app]
   rcases split_app _ _ r1 t ts2 e2 with ⟨a2,e3⟩ | ⟨r2,e3,e4⟩
   ·rcases bal_put_prefix e3 with h0 | h0
    ·rw [h0];show 1 ≤ _ + 0 + _;omega
    ·omega
   ·rw [e3,bal_app,bal_putP]
    have hp:((putS e (holdsB e r) (cutS st (e.d - 1).toNat)).length:Int) = (cutS st (e.d - 1).toNat).length + (if leaf e (holdsB e r) = true then 0 else 1):=by
     unfold putS
     split
     ·simp
     ·simp
    have ih:=bal_pcs r (putS e (holdsB e r) (cutS st (e.d - 1).toNat)) r2 t ts2 (fun x hx=>hr x (by simp [hx])) (by
     split at hp <;> omega) e4
    omega
theorem bal_root {es:List El} (h:(chkZ es).1 = 0) {ts1:List IT} {t:IT} {ts2:List IT} (hp:pcsF es [] = ts1 ++ t :: ts2) (hne:ts1 ≠ []):1 ≤ bal ts1:=by
 cases es with
 | nil=>cases h
 | cons e r =>
  unfold chkZ at h
  rw [if_neg (List.cons_ne_nil _ _)] at h
  obtain ⟨ht,-,-⟩:=chkF_ok _ _ _ h
  have h2:∀ x ∈ r,2 ≤ x.d:=by
   have hh:=h
   unfold chkF at hh
   split at hh
   ·exact (chkF_ok _ _ _ hh).2.1 (by omega)
   ·rename_i he;exact absurd hh he
  have hd:e.d = 1:=by have:=ht.1;have:=ht.2.1;omega
  have e0:shutL [] (e.d - 1).toNat = []:=by unfold shutL;simp
  have e1:cutS [] (e.d - 1).toNat = []:=by unfold cutS;simp
  rw [pcsF,e0,e1,List.nil_append] at hp
  rcases split_app _ _ ts1 t ts2 hp with ⟨a2,e3⟩ | ⟨r2,e3,e4⟩
  ·rcases bal_put_prefix e3 with h0 | h0
   ·exact absurd h0 hne
   ·omega
  ·rw [e3,bal_app,bal_putP]
   cases hl:leaf e (holdsB e r)
   ·rw [if_neg (by decide)]
    have e5:putS e (holdsB e r) [] = [e.nm]:=by unfold putS;rw [hl];rfl
    rw [e5] at e4
    have:=bal_pcs r [e.nm] r2 t ts2 h2 (by simp) e4
    simp at this
    omega
   ·have e5:putS e (holdsB e r) [] = []:=by unfold putS;rw [if_pos hl]
    have hr:r = []:=by
     cases r with
     | nil=>rfl
     | cons y r =>
      have:=h2 y (by simp)
      unfold leaf holdsB at hl
      simp only [Bool.and_eq_true,Bool.not_eq_true',decide_eq_false_iff_not] at hl
      omega
    rw [e5,hr] at e4
    unfold pcsF shutL at e4
    simp at e4
theorem take_cut {bl:ByteArray → Bool} {es:List El} (h:(chkZ es).1 = 0) {us:List Tok} (hu:Prt us (pcsF es [])) {s:PSt} (ht:takeL bl us ⟨[],[]⟩ = .ok s):s.op ≠ [] ∨ s.es = []:=by
 obtain ⟨ts1,t,ts2,e,hs⟩:=hu
 have hb:=takeL_bal us ht
 have hbal:balT us = bal ts1:=by
  rcases hs with hs | ⟨us1,u,rfl,hs,h5⟩
  ·exact sm_bal hs
  ·rw [balT_app,sm_bal hs,balT,h5]
   show bal ts1 + (0 + 0) = _
   omega
 by_cases hne:ts1 = []
 ·subst hne
  have hes:s.es = [] ∨ s.op ≠ []:=by
   rcases hs with hs | ⟨us1,u,rfl,hs,h5⟩
   ·rw [sm_nil hs] at ht
    cases ht
    exact .inl rfl
   ·rw [sm_nil hs,List.nil_append] at ht
    simp only [takeL] at ht
    unfold takeT at ht
    rw [if_neg (by omega),if_neg (by omega),if_neg (by omega),if_neg (by omega),if_pos h5] at ht
    simp only [List.getLast?_nil] at ht
    split at ht
    ·cases ht
    ·rename_i h6
     split at h6
     ·cases h6
      cases ht
      exact .inl rfl
     ·cases h6
  rcases hes with hes | hes
  ·exact .inr hes
  ·exact .inl hes
 ·have:=bal_root h e hne
  rw [hbal] at hb
  have ho:s.op ≠ []:=fun e=>by
   rw [e] at hb
   simp at hb
   omega
  exact .inl ho
theorem chn_closes {Q:List IT} (hQ:Chn 4 Q):∀ (st:List ByteArray) (last:Int),st ≠ [] → (∀ nm ∈ st,xmlNameB nm = true) → inT last = false → Chn last (st.map pcC ++ Q)
 | [],_,h,_,_=>absurd rfl h
 | nm :: st,last,_,hn,hl=>by
  refine ⟨fits_put (k:=4) rfl ⟨by decide,fun h=>absurd h (by decide),fun _=>rfl,hl.symm,fun h=>absurd h (by decide),fun h=>absurd h (by decide),fun _=>hn nm (by simp),vx_nil,fun h=>absurd h (by decide),fun h=>absurd h (by decide)⟩,?_⟩
  cases st with
  | nil=>exact hQ
  | cons a st=>exact chn_closes hQ (a :: st) 4 (List.cons_ne_nil _ _) (fun x hx=>hn x (by simp at hx ⊢;exact .inr hx)) rfl
theorem chn_behind {Q:List IT} (hQ:∀ l:Int,l = 3 ∨ l = 4 → Chn l Q):∀ (r:List El) (a:Int) (st:List ByteArray) (last:Int),Tr a r → (∀ nm ∈ st,xmlNameB nm = true) → inT last = false → (st = [] → r = [] → last = 3 ∨ last = 4) → Chn last (pcsF r st ++ Q)
 | [],a,st,last,_,hst,hl,h0=>by
  unfold pcsF shutL
  rw [Nat.sub_zero,List.take_length]
  by_cases he:st = []
  ·subst he
   exact hQ last (h0 rfl rfl)
  ·exact chn_closes (hQ 4 (.inr rfl)) st last he hst hl
 | e :: r,a,st,last,⟨h1,h2,h3,h4,h5⟩,hst,hl,_=>by
  unfold pcsF
  rw [List.append_assoc]
  refine chn_app _ _ last (fun t ht=>?_) hl fun l hl2=>?_
  ·obtain ⟨nm,hm,rfl⟩:=List.mem_map.1 ht
   exact ⟨rfl,hst nm (List.mem_of_mem_take hm),rfl⟩
  ·have hll:inT l = false:=by
    rcases hl2 with rfl | rfl
    ·exact hl
    ·rfl
   have hcut:∀ nm ∈ cutS st (e.d - 1).toNat,xmlNameB nm = true:=fun nm hm=>hst nm (List.mem_of_mem_drop hm)
   unfold putP putS
   refine ⟨fits_put (k:=0) rfl ⟨by decide,fun h=>absurd h (by decide),fun _=>rfl,hll.symm,fun h=>absurd h (by decide),fun h=>absurd h (by decide),fun _=>h4.nm,vx_nil,fun h=>absurd h (by decide),fun h=>absurd h (by decide)⟩,?_⟩
   show Chn 0 (((_ ++ _) ++ _) ++ Q)
   rw [List.append_assoc,List.append_assoc]
   refine chn_ats e.ats _ _ h4.ats rfl fun k hk=>?_
   split
   ·refine ⟨fits_put (k:=3) rfl ⟨by decide,fun _=>rfl,fun _=>rfl,hk.symm,fun h=>absurd h (by decide),fun h=>absurd h (by decide),fun h=>absurd h (by decide),vx_nil,fun h=>absurd h (by decide),fun h=>absurd h (by decide)⟩,?_⟩
    exact chn_behind hQ r e.d _ 3 h5 hcut rfl (fun _ _=>.inl rfl)
   ·have hcons:∀ nm ∈ e.nm :: cutS st (e.d - 1).toNat,xmlNameB nm = true:=fun nm hm=>by
     rcases List.mem_cons.1 hm with rfl | hm
     ·exact h4.nm
     ·exact hcut nm hm
    refine ⟨fits_put (k:=2) rfl ⟨by decide,fun _=>rfl,fun _=>rfl,hk.symm,fun h=>absurd h (by decide),fun h=>absurd h (by decide),fun h=>absurd h (by decide),vx_nil,fun h=>absurd h (by decide),fun h=>absurd h (by decide)⟩,?_⟩
    split
    ·exact chn_behind hQ r e.d _ 2 h5 hcons rfl (fun h=>by cases h)
    ·rename_i hz
     refine ⟨fits_put (k:=5) rfl ⟨by decide,fun _=>rfl,fun h=>absurd h (by decide),rfl,fun h=>absurd h (by decide),fun _=>⟨?_,by decide⟩,fun h=>absurd h (by decide),h4.tx,fun h=>absurd h (by decide),fun h=>absurd h (by decide)⟩,chn_behind hQ r e.d _ 5 h5 hcons rfl (fun h=>by cases h)⟩
     show 0 < e.tx.size
     omega
theorem chn_more {es:List El} (h:(chkZ es).1 = 0) {Q:List IT} (hQ:∀ l:Int,l = 3 ∨ l = 4 → Chn l Q):Chn (-1) (pcsF es [] ++ Q):=by
 have ht:Tr 0 es ∧ es ≠ []:=by
  unfold chkZ at h
  split at h
  ·cases h
  ·rename_i hn;exact ⟨(chkF_ok _ _ _ h).1,hn⟩
 exact chn_behind hQ es 0 [] (-1) ht.1 (fun nm hm=>by cases hm) rfl (fun _ e=>absurd e ht.2)
theorem chn_twice {es:List El} (h:(chkZ es).1 = 0):∀ l:Int,l = 3 ∨ l = 4 → Chn l (pcsF es []):=fun l hl=>by
 unfold chkZ at h
 split at h
 ·cases h
 ·exact chn_pcs es 0 [] l (chkF_ok _ _ _ h).1 (fun nm hm=>by cases hm) (by rcases hl with rfl | rfl <;> rfl)
def SmP (w:IT → Nat):Nat → List Tok → List IT → Prop
 | _,[],[]=>True
 | a,u :: us,t :: ts=>(u.k:Int) = t.k ∧ u.nm = t.nm ∧ u.vl = t.vl ∧ (t.k = 0 → u.p = a) ∧ SmP w (a + w t) us ts
 | _,_,_=>False
theorem smP_sm (w:IT → Nat):∀ (a:Nat) (us:List Tok) (ts:List IT),SmP w a us ts → Sm us ts
 | _,[],[],_=>trivial
 | a,u :: us,t :: ts,h=>⟨h.1,h.2.1,h.2.2.1,smP_sm w _ us ts h.2.2.2.2⟩
 | _,[],_ :: _,h=>by cases h
 | _,_ :: _,[],h=>by cases h
def sumW (w:IT → Nat):List IT → Nat
 | []=>0
 | t :: ts=>w t + sumW w ts
theorem smP_app (w:IT → Nat):∀ (b:List IT) (x:List IT) (a:Nat) (us:List Tok),SmP w a us (b ++ x) → ∃ u1 u2,us = u1 ++ u2 ∧ SmP w a u1 b ∧ SmP w (a + sumW w b) u2 x
 | [],x,a,us,h=>⟨[],us,rfl,trivial,h⟩
 | t :: b,x,a,[],h=>by cases h
 | t :: b,x,a,u :: us,h=>by
  obtain ⟨u1,u2,e,h1,h2⟩:=smP_app w b x _ us h.2.2.2.2
  refine ⟨u :: u1,u2,by rw [e];rfl,⟨h.1,h.2.1,h.2.2.1,h.2.2.2.1,h1⟩,?_⟩
  rw [sumW,← Nat.add_assoc]
  exact h2
theorem take_second (bl:ByteArray → Bool) (w:IT → Nat) {es:List El} (h:(chkZ es).1 = 0) {es':List El} (hne:es' ≠ []) {a:Nat} {us:List Tok} (hu:SmP w a us (pcsF es [])):takeL bl us ⟨[],es'⟩ = .error (53,a):=by
 cases es with
 | nil=>cases h
 | cons e r =>
  have e0:shutL [] (e.d - 1).toNat = []:=by unfold shutL;simp
  rw [pcsF,e0,List.nil_append] at hu
  unfold putP at hu
  cases us with
  | nil=>cases hu
  | cons u us =>
   have hk:u.k = 0:=by have:(u.k:Int) = 0:=hu.1;omega
   have hp:u.p = a:=hu.2.2.2.1 rfl
   have ht:takeT bl ⟨[],es'⟩ u = .error 53:=by
    unfold takeT
    rw [if_pos hk,if_pos ⟨rfl,hne⟩]
   simp only [takeL,ht,hp]
theorem back_at (s:ByteArray) (hs:s.size ≤ 1048576) (ts:List IT):∀ (last:Int) (a:Nat),Chn last ts → last ≠ -1 → a ≤ s.size → Dr s a = fl ts → ∃ us,toksZ s (some (stN last)) a = (us,none) ∧ SmP (fun t=>(wL t).length) a us ts ∧ ∀ u ∈ us,u.k = 0 → u.p < s.size ∧ ch s u.p = 60:=by
 induction ts with
 | nil =>
  intro last a hc _ _ h
  have hi:inT last = false:=hc
  refine ⟨[],toksZ_end (b:=a) ?_,trivial,fun u hu=>by cases hu⟩
  unfold stN
  rw [if_neg (by rw [hi];decide)]
  exact p_stop h
 | cons t ts ih =>
  intro last a hc hl ha h
  obtain ⟨k,hk,f⟩:=fits_of hc.1
  have hc2:=hc.2
  rw [hk] at hc2
  have hw:wL t = (wrB k t.nm t.vl).data.toList:=by unfold wL;rw [hk,Int.toNat_natCast]
  rw [fl_cons,hw] at h
  have hb:=dr_le ha h
  obtain ⟨us,e,sm,pl⟩:=ih (k:Int) _ hc2 (by omega) hb (dr_app h)
  obtain ⟨q,hp,hq⟩:∃ q,pieceZ s (some (stN last)) a = .told (some (stN (k:Int))) (a + (wrB k t.nm t.vl).data.toList.length) ⟨k,t.nm,t.vl,q⟩ ∧ (k = 0 → q = a ∧ a < s.size ∧ ch s a = 60):=by
   by_cases h0:k = 0
   ·subst h0
    obtain ⟨c,y',e2,hcc⟩:=behind_open hc2
    have hi:inT last = false:=f.tag.symm
    have hv:=f.v0 (by decide)
    rw [wl0,e2] at h
    have hh:Dr s a = 60 :: (t.nm.data.toList ++ c :: y'):=h
    have:=p_open hh (f.nm (by decide)) hcc
    obtain ⟨g1,g2,-⟩:=dr_at 60 hh rfl
    refine ⟨a,?_,fun _=>⟨rfl,g1,g2⟩⟩
    rw [wl0,hv]
    unfold stN
    rw [if_neg (by rw [hi];decide),this]
    rw [List.length_cons,tl_len]
    congr 1
    omega
   ·obtain ⟨q,hp,_,_⟩:=piece_back f (fun hh=>hl (f.d hh)) h (fun hh=>absurd hh h0) (fun hh=>by subst hh;exact behind_text hc2)
    exact ⟨q,hp,fun hh=>absurd hh h0⟩
  refine ⟨⟨k,t.nm,t.vl,q⟩ :: us,by rw [toksZ_told (ok_st last hs ha) hp,e],⟨hk.symm,rfl,rfl,fun hh=>?_,?_⟩,fun u hu h0=>?_⟩
  ·exact (hq (by rw [hk] at hh;omega)).1
  ·show SmP _ (a + (wL t).length) us ts
   rw [hw]
   exact sm
  ·rcases List.mem_cons.1 hu with rfl | hu
   ·obtain ⟨q1,q2,q3⟩:=hq h0
    subst q1
    exact ⟨q2,q3⟩
   ·exact pl u hu h0
theorem toks_at {ts:List IT} (hc:Chn (-1) ts) (h7:∀ t r,ts = t :: r → t.k ≠ 7) (hl:(flatL ts).length ≤ 1048576):∃ us,toksN (sOf (flatL ts)) = (us,none) ∧ SmP (fun t=>(wL t).length) 0 us ts ∧ ∀ u ∈ us,u.k = 0 → u.p < (sOf (flatL ts)).size ∧ ch (sOf (flatL ts)) u.p = 60:=by
 have hs:(sOf (flatL ts)).size ≤ 1048576:=by rw [sOf_size];exact hl
 have hli:li (sOf (flatL ts)) = fl ts:=flat_fl ts
 have hv:VX (lOf (sOf (flatL ts))):=by
  rw [lof_li,hli,fl_flat]
  exact flat_vx hc
 generalize sOf (flatL ts) = s at hs hli hv
 have hc2:=chn_two hc h7
 have hp:Lib.hasPrefix s.data.toList bXML.data.toList = false:=by rw [show s.data.toList = fl ts from hli];exact no_decl hc2
 rw [begin_content hs hv hp]
 exact back_at s hs ts 2 0 hc2 (by decide) (Nat.zero_le _) (by show s.data.toList.drop 0 = _;rw [List.drop_zero];exact hli)
theorem sumW_flat:∀ ts:List IT,sumW (fun t=>(wL t).length) ts = (flatL ts).length
 | []=>rfl
 | t :: ts=>by
  rw [sumW,flatL_cons,List.length_append,sumW_flat ts]
  congr 1
  unfold wL lOf
  rw [List.length_map]
def parseG (bl:ByteArray → Bool) (s:ByteArray):List El × Nat × Nat:=match toksN s with
 | (_,some ep)=>([],ep.1,ep.2)
 | (us,none)=>match takeL bl us ⟨[],[]⟩ with
  | .error x=>([],x.1,x.2)
  | .ok t=>if t.op ≠ [] then ([],51,s.size) else if t.es = [] then ([],53,s.size) else (t.es,0,0)
theorem parseG_ok {bl:ByteArray → Bool} {s:ByteArray} {us:List Tok} {es:List El} (h:toksN s = (us,none)) (ht:takeL bl us ⟨[],[]⟩ = .ok ⟨[],es⟩) (hne:es ≠ []):parseG bl s = (es,0,0):=by
 unfold parseG
 rw [h]
 dsimp only
 rw [ht]
 dsimp only
 rw [if_neg (by simp),if_neg hne]
theorem parseG_err {bl:ByteArray → Bool} {s:ByteArray} {us:List Tok} {e p:Nat} (h:toksN s = (us,none)) (ht:takeL bl us ⟨[],[]⟩ = .error (e,p)):parseG bl s = ([],e,p):=by
 unfold parseG
 rw [h]
 dsimp only
 rw [ht]
theorem takeT_inv {bl:ByteArray → Bool} {P Q:El → Prop} {s s':PSt} {t:Tok} (h:takeT bl s t = .ok s') (hs:∀ e ∈ s.es,P e) (hm:∀ e,P e → Q e) (hn:t.k = 0 → ∀ d,Q ⟨d,t.nm,[],⟨#[]⟩,(t.p:Int)⟩)
  (ha:∀ e,P e → Q { e with ats:=e.ats ++ [⟨t.nm,t.vl,(t.p:Int)⟩] }) (hx:∀ e,P e → Q { e with tx:=e.tx ++ t.vl }):∀ e ∈ s'.es,Q e:=by
 have hk:∀ e ∈ s.es,Q e:=fun e he=>hm e (hs e he)
 have hset:∀ (i:Nat) (e':El),Q e' → ∀ x ∈ s.es.set i e',Q x:=fun i e' he x hx=>by
  rcases List.mem_or_eq_of_mem_set hx with h1 | h1
  ·exact hk x h1
  ·rw [h1];exact he
 unfold takeT at h
 repeat' split at h
 all_goals first
  | (cases h;done)
  | (cases h;exact hk)
  | (rename_i h0 _ _ _;cases h;intro e he;rcases List.mem_append.1 he with he | he;exact hk e he;rw [List.mem_singleton] at he;subst he;exact hn h0 _)
  | (rename_i he _ _;cases h;exact hset _ _ (ha _ (hs _ (List.mem_of_getElem? he))))
  | (rename_i he;cases h;exact hset _ _ (hx _ (hs _ (List.mem_of_getElem? he))))
theorem takeL_pl {bl:ByteArray → Bool} {P:Int → Prop}:∀ (us:List Tok) {s s':PSt},(∀ u ∈ us,u.k = 0 → P (u.p:Int)) → takeL bl us s = .ok s' → (∀ e ∈ s.es,P e.p) → ∀ e ∈ s'.es,P e.p
 | [],s,s',_,h,hs=>by cases h;exact hs
 | t :: us,s,s',hp,h,hs=>by
  simp only [takeL] at h
  cases hz:takeT bl s t with
  | error e=>rw [hz] at h;cases h
  | ok s1=>rw [hz] at h;exact takeL_pl us (fun u hu=>hp u (by simp [hu])) h (takeT_inv (P:=fun e=>P e.p) (Q:=fun e=>P e.p) hz hs (fun _ q=>q) (fun h0 _=>hp t (by simp) h0) (fun _ q=>q) (fun _ q=>q))
def sumV:List Tok → Nat
 | []=>0
 | t :: us=>t.vl.size + sumV us
def ESz (N m:Nat) (e:El):Prop:=e.nm.size ≤ N ∧ e.tx.size ≤ m ∧ ∀ a ∈ e.ats,a.nm.size ≤ N ∧ a.vl.size ≤ N
theorem takeL_sz {bl:ByteArray → Bool} {N:Nat}:∀ (us:List Tok) {s s':PSt} {m:Nat},(∀ u ∈ us,u.nm.size ≤ N ∧ u.vl.size ≤ N) → takeL bl us s = .ok s' → (∀ e ∈ s.es,ESz N m e) → ∀ e ∈ s'.es,ESz N (m + sumV us) e
 | [],s,s',m,_,h,hs=>by cases h;exact hs
 | t :: us,s,s',m,hp,h,hs=>by
  simp only [takeL] at h
  cases hz:takeT bl s t with
  | error e=>rw [hz] at h;cases h
  | ok s1 =>
   rw [hz] at h
   have ht:=hp t (by simp)
   rw [sumV,← Nat.add_assoc]
   refine takeL_sz us (fun u hu=>hp u (by simp [hu])) h (takeT_inv (P:=ESz N m) hz hs (fun e q=>⟨q.1,Nat.le_trans q.2.1 (Nat.le_add_right _ _),q.2.2⟩) (fun _ d=>⟨ht.1,Nat.zero_le _,fun a ha=>by cases ha⟩) (fun e q=>⟨q.1,Nat.le_trans q.2.1 (Nat.le_add_right _ _),fun a ha=>?_⟩) (fun e q=>⟨q.1,?_,q.2.2⟩))
   ·rcases List.mem_append.1 ha with ha | ha
    ·exact q.2.2 a ha
    ·rw [List.mem_singleton] at ha;subst ha;exact ht
   ·show (e.tx ++ t.vl).size ≤ _
    rw [ByteArray.size_append]
    exact Nat.add_le_add_right q.2.1 _
theorem sumV_le:∀ (us:List Tok) {last:Int},Chn last (us.map Tok.it) → sumV us ≤ (flatL (us.map Tok.it)).length
 | [],_,_=>Nat.zero_le _
 | t :: us,last,hc=>by
  have ih:=sumV_le us hc.2
  obtain ⟨k,hk,f⟩:=fits_of hc.1
  have hw:=wr_ge f
  rw [List.map_cons,flatL_cons,List.length_append,lOf_length,hk,Int.toNat_natCast,sumV]
  have:t.it.vl = t.vl:=rfl
  rw [this] at hw
  have e2:t.it.nm = t.nm:=rfl
  rw [e2] at hw ⊢
  rw [this]
  omega
theorem sameEs_ne {a b:List El} (h:sameEs a b = true) (hb:b ≠ []):a ≠ []:=fun e=>hb ((sameEs_nil h).1 e)
theorem pcs_first {es:List El} (h:(chkZ es).1 = 0) (Q:List IT):∀ t r,pcsF es [] ++ Q = t :: r → t.k ≠ 7:=fun t r e=>by
 cases es with
 | nil=>cases h
 | cons x es =>
  have e0:shutL [] (x.d - 1).toNat = []:=by unfold shutL;simp
  rw [pcsF,e0,List.nil_append] at e
  unfold putP at e
  injection e with e1 _
  rw [← e1]
  show (0:Int) ≠ 7
  decide
theorem parse_print (bl:ByteArray → Bool) {es:List El} (h:(chkZ es).1 = 0) (hl:(flatL (pcsF es [])).length ≤ 1048576) :
  ∃ es',parseG bl (sOf (flatL (pcsF es []))) = (es',0,0) ∧ sameEs es' es = true ∧ ∀ e ∈ es',∃ n:Nat,e.p = (n:Int) ∧ n < (sOf (flatL (pcsF es []))).size ∧ ch (sOf (flatL (pcsF es []))) n = 60:=by
 obtain ⟨us,h1,h2,h3⟩:=toks_at (chn_all h) (by have:=pcs_first h [];rwa [List.append_nil] at this) hl
 obtain ⟨es',h4,h5⟩:=take_pcs bl h (smP_sm _ _ _ _ h2)
 have hne:=sameEs_ne h5 (chk_len h).2
 refine ⟨es',parseG_ok h1 h4 hne,h5,?_⟩
 exact takeL_pl (P:=fun p=>∃ n:Nat,p = (n:Int) ∧ n < (sOf (flatL (pcsF es []))).size ∧ ch (sOf (flatL (pcsF es []))) n = 60) us (fun u hu h0=>⟨u.p,rfl,h3 u hu h0⟩) h4 (fun e he=>by cases he)
theorem parse_twice (bl:ByteArray → Bool) {es:List El} (h:(chkZ es).1 = 0) (hl:(flatL (pcsF es [] ++ pcsF es [])).length ≤ 1048576):parseG bl (sOf (flatL (pcsF es [] ++ pcsF es []))) = ([],53,(flatL (pcsF es [])).length):=by
 obtain ⟨us,h1,h2,-⟩:=toks_at (chn_more h (chn_twice h)) (pcs_first h _) hl
 obtain ⟨u1,u2,rfl,h3,h4⟩:=smP_app _ _ _ _ _ h2
 obtain ⟨es',h5,h6⟩:=take_pcs bl h (smP_sm _ _ _ _ h3)
 have h7:=take_second bl _ h (sameEs_ne h6 (chk_len h).2) h4
 rw [Nat.zero_add,sumW_flat] at h7
 exact parseG_err h1 ((takeL_app bl u1 u2 h5).trans h7)
theorem parse_text (bl:ByteArray → Bool) {es:List El} (h:(chkZ es).1 = 0) {v:ByteArray} (hv:bl v = false) (hx:VX (lOf v)) (h0:0 < v.size) (hl:(flatL (pcsF es [] ++ [pcT v])).length ≤ 1048576):∃ p,parseG bl (sOf (flatL (pcsF es [] ++ [pcT v]))) = ([],53,p):=by
 have hQ:∀ l:Int,l = 3 ∨ l = 4 → Chn l [pcT v]:=fun l hl=>⟨fits_put (k:=5) rfl ⟨by decide,fun _=>rfl,fun h=>absurd h (by decide),by rcases hl with rfl | rfl <;> rfl,fun h=>absurd h (by decide),fun _=>⟨h0,by rcases hl with rfl | rfl <;> decide⟩,fun h=>absurd h (by decide),hx,fun h=>absurd h (by decide),fun h=>absurd h (by decide)⟩,(show inT 5 = false by decide)⟩
 obtain ⟨us,h1,h2,-⟩:=toks_at (chn_more h hQ) (pcs_first h _) hl
 obtain ⟨u1,u2,rfl,h3,h4⟩:=smP_app _ _ _ _ _ h2
 obtain ⟨es',h5,h6⟩:=take_pcs bl h (smP_sm _ _ _ _ h3)
 obtain ⟨u,u3,rfl,k1,k2,k3,k4⟩:=sm_cons (smP_sm _ _ _ _ h4)
 have hk:u.k = 5:=by have:(u.k:Int) = 5:=k1;omega
 have ht:takeT bl ⟨[],es'⟩ u = .error 53:=by
  unfold takeT
  rw [if_neg (by omega),if_neg (by omega),if_neg (by omega),if_neg (by omega),if_pos hk]
  simp only [List.getLast?_nil]
  rw [show u.vl = v from k3,hv]
  rfl
 refine ⟨u.p,parseG_err h1 ((takeL_app bl u1 _ h5).trans ?_)⟩
 simp only [takeL,ht]
theorem parse_more (bl:ByteArray → Bool) {es:List El} (h:(chkZ es).1 = 0) {v1 v2 v3:ByteArray} (b1:bl v1 = true) (b3:bl v3 = true) (x1:VX (lOf v1)) (x2:VX (lOf v2)) (x3:VX (lOf v3)) (z1:0 < v1.size) (z3:0 < v3.size) (hc:comB v2 = true)
  (hl:(flatL (pcsF es [] ++ [pcT v1,⟨6,E0,v2,0⟩,pcT v3])).length ≤ 1048576):∃ es',parseG bl (sOf (flatL (pcsF es [] ++ [pcT v1,⟨6,E0,v2,0⟩,pcT v3]))) = (es',0,0):=by
 have hQ:∀ l:Int,l = 3 ∨ l = 4 → Chn l [pcT v1,⟨6,E0,v2,0⟩,pcT v3]:=fun l hl =>
  ⟨fits_put (k:=5) rfl ⟨by decide,fun _=>rfl,fun h=>absurd h (by decide),by rcases hl with rfl | rfl <;> rfl,fun h=>absurd h (by decide),fun _=>⟨z1,by rcases hl with rfl | rfl <;> decide⟩,fun h=>absurd h (by decide),x1,fun h=>absurd h (by decide),fun h=>absurd h (by decide)⟩,
   fits_put (k:=6) rfl ⟨by decide,fun _=>rfl,fun h=>absurd h (by decide),rfl,fun h=>absurd h (by decide),fun h=>absurd h (by decide),fun h=>absurd h (by decide),x2,fun _=>hc,fun h=>absurd h (by decide)⟩,
   fits_put (k:=5) rfl ⟨by decide,fun _=>rfl,fun h=>absurd h (by decide),rfl,fun h=>absurd h (by decide),fun _=>⟨z3,(show (6:Int) ≠ 5 by decide)⟩,fun h=>absurd h (by decide),x3,fun h=>absurd h (by decide),fun h=>absurd h (by decide)⟩,(show inT 5 = false by decide)⟩
 obtain ⟨us,h1,h2,-⟩:=toks_at (chn_more h hQ) (pcs_first h _) hl
 obtain ⟨u1,u2,rfl,h3,h4⟩:=smP_app _ _ _ _ _ h2
 obtain ⟨es',h5,h6⟩:=take_pcs bl h (smP_sm _ _ _ _ h3)
 obtain ⟨a,u3,rfl,ka,-,va,s3⟩:=sm_cons (smP_sm _ _ _ _ h4)
 obtain ⟨b,u4,rfl,kb,-,vb,s4⟩:=sm_cons s3
 obtain ⟨c,u5,rfl,kc,-,vc,s5⟩:=sm_cons s4
 rw [sm_nil s5] at h1
 have k1:a.k = 5:=by have:(a.k:Int) = 5:=ka;omega
 have k2:b.k = 6:=by have:(b.k:Int) = 6:=kb;omega
 have k3:c.k = 5:=by have:(c.k:Int) = 5:=kc;omega
 have t5:∀ u:Tok,u.k = 5 → bl u.vl = true → takeT bl ⟨[],es'⟩ u = .ok ⟨[],es'⟩:=fun u hk hb=>by
  unfold takeT
  rw [if_neg (by omega),if_neg (by omega),if_neg (by omega),if_neg (by omega),if_pos hk]
  simp only [List.getLast?_nil]
  rw [hb]
  rfl
 have t6:takeT bl ⟨[],es'⟩ b = .ok ⟨[],es'⟩:=by
  unfold takeT
  rw [if_neg (by omega),if_neg (by omega),if_neg (by omega),if_neg (by omega),if_neg (by omega)]
 refine ⟨es',parseG_ok h1 ((takeL_app bl u1 _ h5).trans ?_) (sameEs_ne h6 (chk_len h).2)⟩
 simp only [takeL,t5 a k1 (by rw [show a.vl = v1 from va];exact b1),t6,t5 c k3 (by rw [show c.vl = v3 from vc];exact b3)]
theorem pcs_k5:∀ (r:List El) (st:List ByteArray),∀ t ∈ pcsF r st,t.k ≤ 5
 | [],st,t,ht=>by
  unfold pcsF shutL at ht
  obtain ⟨nm,_,rfl⟩:=List.mem_map.1 ht
  show (4:Int) ≤ 5
  decide
 | e :: r,st,t,ht=>by
  unfold pcsF at ht
  rcases List.mem_append.1 ht with ht | ht
  ·unfold shutL at ht
   obtain ⟨nm,_,rfl⟩:=List.mem_map.1 ht
   show (4:Int) ≤ 5
   decide
  ·rcases List.mem_append.1 ht with ht | ht
   ·unfold putP at ht
    rcases List.mem_cons.1 ht with rfl | ht
    ·show (0:Int) ≤ 5
     decide
    ·rcases List.mem_append.1 ht with ht | ht
     ·obtain ⟨a,_,rfl⟩:=List.mem_map.1 ht
      show (1:Int) ≤ 5
      decide
     ·split at ht
      ·obtain rfl:t = pcM:=by simpa using ht
       decide
      ·rcases List.mem_cons.1 ht with rfl | ht
       ·decide
       ·split at ht
        ·cases ht
        ·obtain rfl:t = pcT e.tx:=by simpa using ht
         show (5:Int) ≤ 5
         decide
   ·exact pcs_k5 r _ t ht
theorem takeT_err {bl:ByteArray → Bool} {s:PSt} {t:Tok} {e:Nat} (h:takeT bl s t = .error e):e ≠ 0:=by
 unfold takeT at h
 repeat' split at h
 all_goals first | (cases h;done) | (injection h with h;omega)
theorem takeL_err {bl:ByteArray → Bool}:∀ (us:List Tok) {s:PSt} {x:Nat × Nat},takeL bl us s = .error x → x.1 ≠ 0
 | [],s,x,h=>by cases h
 | t :: us,s,x,h=>by
  simp only [takeL] at h
  cases hz:takeT bl s t with
  | error e =>
   rw [hz] at h
   cases h
   exact takeT_err hz
  | ok s1=>rw [hz] at h;exact takeL_err us h
theorem parse_cut (bl:ByteArray → Bool) {es:List El} (h:(chkZ es).1 = 0) {cut:Nat} (hc:cut < (flatL (pcsF es [])).length) (hl:(flatL (pcsF es [])).length ≤ 1048576) :
  (∃ us,toksN ((sOf (flatL (pcsF es []))).extract 0 cut) = (us,none) ∧ VX (lOf ((sOf (flatL (pcsF es []))).extract 0 cut))) → (parseG bl ((sOf (flatL (pcsF es []))).extract 0 cut)).1 = [] ∧ (parseG bl ((sOf (flatL (pcsF es []))).extract 0 cut)).2.1 ≠ 0:=by
 rintro ⟨us,hu,hv⟩
 have hli:li (sOf (flatL (pcsF es []))) = fl (pcsF es []):=flat_fl _
 have hsz:(sOf (flatL (pcsF es []))).size = (flatL (pcsF es [])).length:=sOf_size _
 generalize sOf (flatL (pcsF es [])) = s at *
 have hps:(s.extract 0 cut).size = cut:=by rw [ByteArray.size_extract];omega
 have hpd:(s.extract 0 cut).data.toList = (fl (pcsF es [])).take cut:=by
  rw [← hli]
  show _ = s.data.toList.take cut
  rw [ByteArray.data_extract,Array.toList_extract,List.extract_eq_take_drop]
  simp
 generalize s.extract 0 cut = p at *
 have hc2:=chn_two (chn_all h) (by have:=pcs_first h [];rwa [List.append_nil] at this)
 have hfl:(fl (pcsF es [])).length = (flatL (pcsF es [])).length:=by rw [← fl_flat,List.length_map]
 have hpre:Lib.hasPrefix p.data.toList bXML.data.toList = false:=by
  have hnd:=no_decl hc2
  cases hb:Lib.hasPrefix p.data.toList bXML.data.toList
  ·rfl
  ·have h1:List.isPrefixOf bXML.data.toList p.data.toList = true:=hb
   have h2:bXML.data.toList <+: p.data.toList:=List.isPrefixOf_iff_prefix.1 h1
   rw [hpd] at h2
   have h3:bXML.data.toList <+: fl (pcsF es []):=h2.trans (List.take_prefix _ _)
   have h4:Lib.hasPrefix (fl (pcsF es [])) bXML.data.toList = true:=List.isPrefixOf_iff_prefix.2 h3
   rw [hnd] at h4
   cases h4
 have hs2:p.size ≤ 1048576:=by omega
 have hk5:∀ t ∈ pcsF es [],t.k ≤ 5:=pcs_k5 es []
 rw [begin_content hs2 hv hpre] at hu
 have hP:=cut_main p hs2 (pcsF es []) 2 0 cut us hc2 (by decide) hk5 (Nat.zero_le _) (by show p.data.toList.drop 0 = _;rw [List.drop_zero,hpd]) (by omega) hu
 have hu2:toksN p = (us,none):=by rw [begin_content hs2 hv hpre];exact hu
 unfold parseG
 rw [hu2]
 dsimp only
 cases ht:takeL bl us ⟨[],[]⟩ with
 | error x =>
  refine ⟨rfl,?_⟩
  exact takeL_err _ ht
 | ok t =>
  dsimp only
  rcases take_cut h hP ht with h1 | h1
  ·rw [if_pos h1]
   exact ⟨rfl,(show (51:Nat) ≠ 0 by decide)⟩
  ·by_cases h2:t.op ≠ []
   ·rw [if_pos h2];exact ⟨rfl,(show (51:Nat) ≠ 0 by decide)⟩
   ·rw [if_neg h2,if_pos h1];exact ⟨rfl,(show (53:Nat) ≠ 0 by decide)⟩
end Go.Proofs.YtchfphakhmifmabGreatDoor

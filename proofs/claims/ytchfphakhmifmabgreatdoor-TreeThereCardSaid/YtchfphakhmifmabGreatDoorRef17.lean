import Derived.Test.YtchfphakhmifmabGreatDoorRef15
namespace Go.Proofs.YtchfphakhmifmabGreatDoor
theorem fst_is (s:ByteArray) (p e:Nat) (hpe:p ≤ e) (he:e ≤ s.size) (h1:∀ j,p ≤ j → j < e → ¬ ch s j = 59) (h2:e < s.size → ch s e = 59):fstN (s.extract p s.size) 59 = e - p:=by
 have hz:(s.extract p s.size).size = s.size - p:=size_ext s p s.size (Nat.le_refl _)
 have hle:=fst_le (s.extract p s.size) 59
 rw [hz] at hle
 have hlow:¬ fstN (s.extract p s.size) 59 < e - p:=fun h=>by
  have h3:=fst_at (s.extract p s.size) 59 (by rw [hz];omega)
  rw [ch_ext s p s.size _ (by omega)] at h3
  exact h1 _ (by omega) (by omega) h3
 have hhi:¬ e - p < fstN (s.extract p s.size) 59:=fun h=>by
  have h3:=fst_before (s.extract p s.size) 59 (e - p) h
  rw [ch_ext s p s.size _ (by omega),show p + (e - p) = e by omega] at h3
  exact h3 (h2 (by omega))
 omega
theorem body_is (s:ByteArray) (p e:Nat) (hpe:p ≤ e) (he:e ≤ s.size) (h1:∀ j,p ≤ j → j < e → ¬ ch s j = 59) (h2:e < s.size → ch s e = 59):bodyS s p = s.extract p e ∧ endB s p = decide (e < s.size):=by
 have hf:=fst_is s p e hpe he h1 h2
 unfold bodyS endB
 rw [hf,size_ext s p s.size (Nat.le_refl _),ext_ext s p s.size 0 (e - p) (Nat.le_refl _) (by omega),Nat.add_zero,show p + (e - p) = e by omega]
 refine ⟨rfl,?_⟩
 apply decide_eq_decide.2
 omega
theorem hx2_iff (X:ByteArray):hxB X ⟨#[35,120]⟩ = true ↔ 2 ≤ X.size ∧ ch X 0 = 35 ∧ ch X 1 = 120:=by
 unfold hxB
 rw [Bool.and_eq_true,decide_eq_true_eq,decide_eq_true_eq]
 constructor
 ·rintro ⟨h1,h2⟩
  have h1:2 ≤ X.size:=h1
  have h2:X.extract 0 2 = ⟨#[35,120]⟩:=h2
  have h3:=congrArg lOf h2
  rw [lOf_extract,List.drop_zero,Nat.sub_zero,take_ch X 2 h1] at h3
  have h3:[ch X 0,ch X 1] = [35,120]:=h3
  injection h3 with a b
  injection b with b _
  exact ⟨h1,a,b⟩
 ·rintro ⟨h1,h2,h3⟩
  refine ⟨h1,?_⟩
  apply lOf_inj
  rw [lOf_extract,List.drop_zero,Nat.sub_zero]
  show (lOf X).take 2 = _
  rw [take_ch X 2 h1]
  show [ch X 0,ch X 1] = _
  rw [h2,h3]
  rfl
theorem hx1_iff (X:ByteArray):hxB X ⟨#[35]⟩ = true ↔ 1 ≤ X.size ∧ ch X 0 = 35:=by
 unfold hxB
 rw [Bool.and_eq_true,decide_eq_true_eq,decide_eq_true_eq]
 constructor
 ·rintro ⟨h1,h2⟩
  have h1:1 ≤ X.size:=h1
  have h2:X.extract 0 1 = ⟨#[35]⟩:=h2
  have h3:=congrArg lOf h2
  rw [lOf_extract,List.drop_zero,Nat.sub_zero,take_ch X 1 h1] at h3
  have h3:[ch X 0] = [35]:=h3
  injection h3 with a
  exact ⟨h1,a⟩
 ·rintro ⟨h1,h2⟩
  refine ⟨h1,?_⟩
  apply lOf_inj
  rw [lOf_extract,List.drop_zero,Nat.sub_zero]
  show (lOf X).take 1 = _
  rw [take_ch X 1 h1]
  show [ch X 0] = _
  rw [h2]
  rfl
theorem name_hash (X:ByteArray) (h:ch X 0 = 35):nameB X.data.toList = none:=by
 have key:∀ l:List UInt8,(l.getD 0 0).toNat ≠ 35 → ¬ X.data.toList = l:=fun l hl e=>hl (by rw [← e];exact h)
 unfold nameB
 rw [if_neg (key _ (by decide)),if_neg (key _ (by decide)),if_neg (key _ (by decide)),if_neg (key _ (by decide)),if_neg (key _ (by decide))]
theorem lOf_nil_iff (Y:ByteArray):lOf Y = [] ↔ ¬ 0 < Y.size:=by
 rw [← lOf_length]
 constructor
 ·intro h;rw [h];simp
 ·intro h;exact List.length_eq_zero_iff.1 (by omega)
theorem num_tie (base:Nat) (s:ByteArray) (a k e:Nat) (hk:a + k ≤ e) (he:e < s.size) (hb:bodyS s (a + k) = s.extract (a + k) e) (hn:endB s (a + k) = true) :
  numAt base s a k = if numR base (lOf (s.extract (a + k) e)) ≠ [] then some (numR base (lOf (s.extract (a + k) e)),e + 1) else none:=by
 unfold numAt numR numS
 rw [hb,hn]
 have hz:(s.extract (a + k) e).size = e - (a + k):=size_ext s _ _ (by omega)
 by_cases h0:0 < (s.extract (a + k) e).size
 ·rw [if_pos ⟨rfl,h0⟩,if_neg (fun h=>(lOf_nil_iff _).1 h h0)]
  cases numF base (lOf (s.extract (a + k) e)) 0 with
  | none=>simp
  | some n =>
   simp only
   by_cases hx:xmlB (n:Int) = true
   ·rw [if_pos hx,if_pos hx,if_pos (encN_ne n).1,hz,show a + (k + (e - (a + k)) + 1) = e + 1 by omega]
   ·rw [if_neg hx,if_neg hx];simp
 ·rw [if_neg (fun h=>h0 h.2),if_pos ((lOf_nil_iff _).2 h0)];simp
theorem drop_ext (s:ByteArray) (a e k:Nat) (_:a + k ≤ e) (_:e ≤ s.size):(lOf (s.extract a e)).drop k = lOf (s.extract (a + k) e):=by
 rw [lOf_extract,lOf_extract,List.drop_take,List.drop_drop]
 congr 1
 omega
theorem ent_tie (s:ByteArray) (a e:Nat) (ha:a < e) (he:e ≤ s.size) (h1:∀ j,a < j → j < e → ¬ ch s j = 59) (h2:e < s.size → ch s e = 59) :
  entAt s a = if e < s.size ∧ entR (s.extract (a + 1) e) ≠ [] then some (entR (s.extract (a + 1) e),e + 1) else none:=by
 have B:∀ p,a < p → p ≤ e → bodyS s p = s.extract p e ∧ endB s p = decide (e < s.size):=fun p h3 h4=>body_is s p e h4 he (fun j h5 h6=>h1 j (by omega) h6) h2
 have hXz:(s.extract (a + 1) e).size = e - (a + 1):=size_ext s _ _ he
 have step:∀ p,a < p → p < s.size → p ≤ e → ¬ ch s p = 59 → p + 1 ≤ e:=fun p h3 h4 h5 h6=>by
  by_cases h7:p = e
  ·exact absurd (by rw [h7];exact h2 (by omega)) h6
  ·omega
 unfold entAt
 by_cases c1:a + 2 < s.size ∧ ch s (a + 1) = 35 ∧ ch s (a + 2) = 120
 ·rw [if_pos c1]
  have p2:=step (a + 1) (by omega) (by omega) (by omega) (by rw [c1.2.1];decide)
  have p3:=step (a + 2) (by omega) (by omega) (by omega) (by rw [c1.2.2];decide)
  have x0:ch (s.extract (a + 1) e) 0 = 35:=by rw [ch_ext s _ _ 0 (by omega)];exact c1.2.1
  have x1:ch (s.extract (a + 1) e) 1 = 120:=by rw [ch_ext s _ _ 1 (by omega)];exact c1.2.2
  have hR:entR (s.extract (a + 1) e) = numR 16 (lOf (s.extract (a + 3) e)):=by
   unfold entR
   rw [name_hash _ x0]
   simp only
   rw [if_pos ((hx2_iff _).2 ⟨by omega,x0,x1⟩),drop_ext s (a + 1) e 2 (by omega) he]
  obtain ⟨b1,b2⟩:=B (a + 3) (by omega) (by omega)
  rw [hR]
  by_cases hes:e < s.size
  ·rw [num_tie 16 s a 3 e (by omega) hes b1 (by rw [b2];exact decide_eq_true hes)]
   simp only [hes,true_and]
  ·unfold numAt
   rw [b2,decide_eq_false hes,if_neg (by simp),if_neg (fun h=>hes h.1)]
 ·rw [if_neg c1]
  by_cases c2:a + 1 < s.size ∧ ch s (a + 1) = 35
  ·rw [if_pos c2]
   have p2:=step (a + 1) (by omega) (by omega) (by omega) (by rw [c2.2];decide)
   have x0:ch (s.extract (a + 1) e) 0 = 35:=by rw [ch_ext s _ _ 0 (by omega)];exact c2.2
   have hR:entR (s.extract (a + 1) e) = numR 10 (lOf (s.extract (a + 2) e)):=by
    unfold entR
    rw [name_hash _ x0]
    simp only
    rw [if_neg (fun h=>by
     have h3:=(hx2_iff _).1 h
     rw [hXz] at h3
     have h4:=h3.2.2
     rw [ch_ext s _ _ 1 (by omega)] at h4
     exact c1 ⟨by omega,c2.2,h4⟩),if_pos ((hx1_iff _).2 ⟨by omega,x0⟩),drop_ext s (a + 1) e 1 (by omega) he]
   obtain ⟨b1,b2⟩:=B (a + 2) (by omega) (by omega)
   rw [hR]
   by_cases hes:e < s.size
   ·rw [num_tie 10 s a 2 e (by omega) hes b1 (by rw [b2];exact decide_eq_true hes)]
    simp only [hes,true_and]
   ·unfold numAt
    rw [b2,decide_eq_false hes,if_neg (by simp),if_neg (fun h=>hes h.1)]
  ·rw [if_neg c2]
   obtain ⟨b1,b2⟩:=B (a + 1) (by omega) (by omega)
   rw [b1,b2]
   by_cases hes:e < s.size
   ·rw [decide_eq_true hes,if_pos rfl]
    have n1:¬ hxB (s.extract (a + 1) e) ⟨#[35]⟩ = true:=fun h=>by
     have h3:=(hx1_iff _).1 h
     rw [hXz] at h3
     have h4:=h3.2
     rw [ch_ext s _ _ 0 (by omega)] at h4
     exact c2 ⟨by omega,h4⟩
    have n2:¬ hxB (s.extract (a + 1) e) ⟨#[35,120]⟩ = true:=fun h=>n1 ((hx1_iff _).2 (by have h3:=(hx2_iff _).1 h;exact ⟨by omega,h3.2.1⟩))
    unfold entR
    cases nameB (s.extract (a + 1) e).data.toList with
    | some b=>simp only [hes,true_and];rw [if_pos (by simp),hXz,show a + (1 + (e - (a + 1)) + 1) = e + 1 by omega]
    | none=>simp only [n1,n2];rw [if_neg (by simp)]
   ·rw [decide_eq_false hes,if_neg (by decide),if_neg (fun h=>hes h.1)]
end Go.Proofs.YtchfphakhmifmabGreatDoor

import Derived.Test.YtchfphakhmifmabGreatDoorMD
namespace Go.Proofs.YtchfphakhmifmabGreatDoor
theorem accN_1 (c:Nat) (s:ByteArray):accN c s 1 = c * 64 + ch s 1 % 64:=rfl
theorem accN_2 (c:Nat) (s:ByteArray):accN c s 2 = (c * 64 + ch s 1 % 64) * 64 + ch s 2 % 64:=rfl
theorem accN_3 (c:Nat) (s:ByteArray):accN c s 3 = ((c * 64 + ch s 1 % 64) * 64 + ch s 2 % 64) * 64 + ch s 3 % 64:=rfl
theorem seq1 (t:ByteArray) (hs:1 ≤ t.size) (h:ch t 0 ≤ 127):seqN t = (ch t 0,1):=by
 have e:rsz (ch t 0) = 1:=by unfold rsz;rw [if_pos h]
 unfold seqN
 dsimp only
 rw [e,if_pos (by unfold begB;simp [hs]),if_pos rfl]
theorem seq_low (t:ByteArray) (h:128 ≤ ch t 0) (h2:ch t 0 < 194):seqN t = (0,0):=by
 have e:rsz (ch t 0) = 0:=by unfold rsz;rw [if_neg (by omega),if_pos h2]
 unfold seqN
 dsimp only
 rw [e,if_neg (by unfold begB;simp)]
theorem seq2 (t:ByteArray) (hs:2 ≤ t.size) (h:194 ≤ ch t 0) (h2:ch t 0 ≤ 223) (h3:128 ≤ ch t 1) (h4:ch t 1 ≤ 191):seqN t = ((ch t 0 - 192) * 64 + (ch t 1 - 128),2):=by
 have e:rsz (ch t 0) = 2:=by unfold rsz;rw [if_neg (by omega),if_neg (by omega),if_pos h2]
 have l:rlo (ch t 0) = 128:=by unfold rlo;rw [if_neg (by omega),if_neg (by omega),if_pos h2]
 have u:rhi (ch t 0) = 191:=by unfold rhi;rw [if_neg (by omega),if_neg (by omega),if_pos h2]
 unfold seqN
 dsimp only
 rw [e,l,u,if_pos (by unfold begB;simp [hs,h3,h4]),if_neg (by decide)]
 rw [show (2:Nat) - 1 = 1 from rfl,show (2:Nat) ^ (7 - 2) = 32 from rfl,accN_1]
 rw [Prod.mk.injEq]
 exact ⟨by omega,rfl⟩
theorem lo3 (c:Nat) (h:224 ≤ c) (h2:c ≤ 239):rlo c = if c = 224 then 160 else 128:=by
 unfold rlo;rw [if_neg (by omega),if_neg (by omega),if_neg (by omega)]
 split
 ·rfl
 ·first | rfl | rw [if_pos h2]
theorem hi3 (c:Nat) (h:224 ≤ c) (h2:c ≤ 239):rhi c = if c = 237 then 159 else 191:=by
 unfold rhi;rw [if_neg (by omega),if_neg (by omega),if_neg (by omega)]
 split
 ·rfl
 ·rw [if_pos (by omega)]
theorem lo4 (c:Nat) (h:240 ≤ c) (h2:c ≤ 244):rlo c = if c = 240 then 144 else 128:=by
 unfold rlo;rw [if_neg (by omega),if_neg (by omega),if_neg (by omega),if_neg (by omega),if_neg (by omega)]
 split
 ·rfl
 ·first | rfl | rw [if_pos h2]
theorem hi4 (c:Nat) (h:240 ≤ c) (h2:c ≤ 244):rhi c = if c = 244 then 143 else 191:=by
 unfold rhi;rw [if_neg (by omega),if_neg (by omega),if_neg (by omega),if_neg (by omega)]
 by_cases e:c = 244
 ·rw [if_neg (by omega),if_pos e,if_pos e]
 ·rw [if_pos (by omega),if_neg e]
theorem sz3 (c:Nat) (h:224 ≤ c) (h2:c ≤ 239):rsz c = 3:=by
 unfold rsz;rw [if_neg (by omega),if_neg (by omega),if_neg (by omega),if_pos h2]
theorem sz4 (c:Nat) (h:240 ≤ c) (h2:c ≤ 244):rsz c = 4:=by
 unfold rsz;rw [if_neg (by omega),if_neg (by omega),if_neg (by omega),if_neg (by omega),if_pos h2]
theorem seq3 (t:ByteArray) (hs:3 ≤ t.size) (h:224 ≤ ch t 0) (h2:ch t 0 ≤ 239) (h3:rlo (ch t 0) ≤ ch t 1) (h4:ch t 1 ≤ rhi (ch t 0)) (h5:128 ≤ ch t 2) (h6:ch t 2 ≤ 191) :
  seqN t = ((ch t 0 - 224) * 4096 + (ch t 1 - 128) * 64 + (ch t 2 - 128),3):=by
 have e:=sz3 _ h h2
 have l:=lo3 _ h h2
 have u:=hi3 _ h h2
 have l2:128 ≤ ch t 1:=by rw [l] at h3;split at h3 <;> omega
 have u2:ch t 1 ≤ 191:=by rw [u] at h4;split at h4 <;> omega
 unfold seqN
 dsimp only
 rw [e,if_pos (by unfold begB tailB;simp [hs,h3,h4,h5,h6]),if_neg (by decide)]
 rw [show (3:Nat) - 1 = 2 from rfl,show (2:Nat) ^ (7 - 3) = 16 from rfl,accN_2]
 rw [Prod.mk.injEq]
 exact ⟨by omega,rfl⟩
theorem seq4 (t:ByteArray) (hs:4 ≤ t.size) (h:240 ≤ ch t 0) (h2:ch t 0 ≤ 244) (h3:rlo (ch t 0) ≤ ch t 1) (h4:ch t 1 ≤ rhi (ch t 0)) (h5:128 ≤ ch t 2) (h6:ch t 2 ≤ 191) (h7:128 ≤ ch t 3) (h8:ch t 3 ≤ 191) :
  seqN t = ((ch t 0 - 240) * 262144 + (ch t 1 - 128) * 4096 + (ch t 2 - 128) * 64 + (ch t 3 - 128),4):=by
 have e:=sz4 _ h h2
 have l:=lo4 _ h h2
 have u:=hi4 _ h h2
 have l2:128 ≤ ch t 1:=by rw [l] at h3;split at h3 <;> omega
 have u2:ch t 1 ≤ 191:=by rw [u] at h4;split at h4 <;> omega
 unfold seqN
 dsimp only
 rw [e,if_pos (by unfold begB tailB;simp [hs,h3,h4,h5,h6,h7,h8]),if_neg (by decide)]
 rw [show (4:Nat) - 1 = 3 from rfl,show (2:Nat) ^ (7 - 4) = 8 from rfl,accN_3]
 rw [Prod.mk.injEq]
 exact ⟨by omega,rfl⟩
theorem ch_at {S:ByteArray} {P M R:List Nat} (h:lOf S = P ++ M ++ R) (i:Nat) (hi:i < M.length):ch S (P.length + i) = M.getD i 0:=by
 rw [ch_lOf,h,List.append_assoc]
 simp [List.getD,List.getElem?_append,hi]
 rw [if_neg (by omega)];rfl
theorem size_of {S:ByteArray} {L:List Nat} (h:lOf S = L):S.size = L.length:=by rw [← h,lOf_length]
theorem find_at:∀ (N R:List Nat),(∀ x ∈ N,¬ x = 59) → (N ++ 59 :: R).findIdx (· == 59) = N.length
 | [],R,_=>by simp [List.findIdx_cons]
 | x :: N,R,h=>by
  have hx:(x == 59) = false:=by rw [beq_eq_false_iff_ne];exact h x (by simp)
  rw [List.cons_append,List.findIdx_cons,hx,find_at N R (fun y hy=>h y (by simp [hy]))]
  rfl
theorem body_at {S:ByteArray} {Q N R:List Nat} (h:lOf S = Q ++ N ++ 59 :: R) (hN:∀ x ∈ N,¬ x = 59):lOf (bodyS S Q.length) = N ∧ endB S Q.length = true:=by
 have hz:=size_of h
 simp only [List.length_append,List.length_cons] at hz
 have e:lOf (S.extract Q.length S.size) = N ++ 59 :: R:=by
  rw [lOf_extract,h,List.append_assoc,List.drop_left,List.take_of_length_le (by simp;omega)]
 have f:fstN (S.extract Q.length S.size) 59 = N.length:=by unfold fstN;rw [e];exact find_at N R hN
 have z:(S.extract Q.length S.size).size = S.size - Q.length:=size_ext S _ _ (Nat.le_refl _)
 constructor
 ·unfold bodyS
  rw [lOf_extract,f,e,List.drop_zero,Nat.sub_zero,List.take_left]
 ·unfold endB
  rw [f,z]
  simp
  omega
theorem ent_named {S:ByteArray} {P N R:List Nat} (h:lOf S = P ++ (38 :: N ++ [59]) ++ R) (hN:∀ x ∈ N,¬ x = 59) (h35:¬ N.getD 0 0 = 35) (hne:N ≠ []) (k:List UInt8) (hk:N = k.map UInt8.toNat) (b:Nat) (hb:nameB k = some b):entAt S P.length = some ([b],P.length + (N.length + 2)):=by
 have h':lOf S = (P ++ [38]) ++ N ++ 59 :: R:=by rw [h];simp
 obtain ⟨e1,e2⟩:=body_at h' hN
 rw [List.length_append] at e1 e2
 have c1:=ch_at (M:=N) (P:=P ++ [38]) (R:=59 :: R) h' 0 (by cases N;exact absurd rfl hne;simp)
 rw [List.length_append,Nat.add_zero] at c1
 have e1:lOf (bodyS S (P.length + 1)) = N:=e1
 have e2:endB S (P.length + 1) = true:=e2
 have c1:ch S (P.length + 1) = N.getD 0 0:=c1
 have e3:(bodyS S (P.length + 1)).data.toList = k:=toNat_map_inj _ _ (by rw [← hk];exact e1)
 have e4:(bodyS S (P.length + 1)).size = N.length:=by rw [← lOf_length,e1]
 unfold entAt
 rw [if_neg (fun hh=>h35 (by rw [← c1];exact hh.2.1)),if_neg (fun hh=>h35 (by rw [← c1];exact hh.2)),if_pos e2,e3,hb,e4]
 simp
 omega
theorem ent_dec {S:ByteArray} {P N R:List Nat} (h:lOf S = P ++ (38 :: 35 :: N ++ [59]) ++ R) (hN:∀ x ∈ N,¬ x = 59) (h120:¬ N.getD 0 0 = 120) (hne:N ≠ []) (n:Nat) (hn:numF 10 N 0 = some n) (hx:xmlB (n:Int) = true):entAt S P.length = some (encN n,P.length + (N.length + 3)):=by
 have h':lOf S = (P ++ [38,35]) ++ N ++ 59 :: R:=by rw [h];simp
 have h2:lOf S = P ++ [38,35] ++ (N ++ 59 :: R):=by rw [h];simp
 have hz:=size_of h
 simp only [List.length_append,List.length_cons,List.length_nil] at hz
 obtain ⟨e1,e2⟩:=body_at h' hN
 rw [List.length_append] at e1 e2
 have hp:0 < N.length:=by cases N;exact absurd rfl hne;simp
 have c1:=ch_at h2 1 (by decide)
 have c2:=ch_at (M:=N) (P:=P ++ [38,35]) (R:=59 :: R) h' 0 hp
 rw [List.length_append,Nat.add_zero] at c2
 have e1:lOf (bodyS S (P.length + 2)) = N:=e1
 have e2:endB S (P.length + 2) = true:=e2
 have c2:ch S (P.length + 2) = N.getD 0 0:=c2
 have c1:ch S (P.length + 1) = 35:=c1
 have e4:(bodyS S (P.length + 2)).size = N.length:=by rw [← lOf_length,e1]
 unfold entAt
 rw [if_neg (fun hh=>h120 (by rw [← c2];exact hh.2.2)),if_pos ⟨by omega,c1⟩]
 unfold numAt numS
 rw [if_pos ⟨e2,by omega⟩,e1,hn]
 dsimp only
 rw [if_pos hx,e4,show P.length + (2 + N.length + 1) = P.length + (N.length + 3) by omega]
theorem escC_38 (attr:Bool):escC attr 38 = [38,97,109,112,59]:=rfl
theorem escC_60 (attr:Bool):escC attr 60 = [38,108,116,59]:=rfl
theorem escC_62 (attr:Bool):escC attr 62 = [38,103,116,59]:=rfl
theorem escC_13 (attr:Bool):escC attr 13 = [38,35,49,51,59]:=rfl
theorem escC_34:escC true 34 = [38,113,117,111,116,59]:=rfl
theorem escC_9:escC true 9 = [38,35,57,59]:=rfl
theorem escC_10:escC true 10 = [38,35,49,48,59]:=rfl
theorem escC_else (attr:Bool) (c:Nat) (h:¬ c = 38 ∧ ¬ c = 60 ∧ ¬ c = 62 ∧ ¬ c = 13) (h2:attr = true → ¬ c = 34 ∧ ¬ c = 9 ∧ ¬ c = 10):escC attr c = [c]:=by
 have e1:entB c = ⟨#[]⟩:=by unfold entB;rw [if_neg h.1,if_neg h.2.1,if_neg h.2.2.1,if_neg h.2.2.2]
 unfold escC
 rw [e1,if_neg (by decide),if_neg]
 rintro ⟨ht,hz⟩
 obtain ⟨a,b,d⟩:=h2 ht
 have e2:attB c = ⟨#[]⟩:=by unfold attB;rw [if_neg a,if_neg b,if_neg d]
 rw [e2] at hz
 exact absurd hz (by decide)
theorem escC_cases (attr:Bool) (c:Nat):(c = 38) ∨ (c = 60) ∨ (c = 62) ∨ (c = 13) ∨ (attr = true ∧ c = 34) ∨ (attr = true ∧ c = 9) ∨ (attr = true ∧ c = 10) ∨ ((¬ c = 38 ∧ ¬ c = 60 ∧ ¬ c = 62 ∧ ¬ c = 13) ∧ (attr = true → ¬ c = 34 ∧ ¬ c = 9 ∧ ¬ c = 10)):=by
 cases attr
 ·by_cases h:c = 38 ∨ c = 60 ∨ c = 62 ∨ c = 13
  ·rcases h with h | h | h | h <;> simp [h]
  ·exact Or.inr (Or.inr (Or.inr (Or.inr (Or.inr (Or.inr (Or.inr ⟨by omega,fun h=>by cases h⟩))))))
 ·by_cases h:c = 38 ∨ c = 60 ∨ c = 62 ∨ c = 13 ∨ c = 34 ∨ c = 9 ∨ c = 10
  ·rcases h with h | h | h | h | h | h | h <;> simp [h]
  ·exact Or.inr (Or.inr (Or.inr (Or.inr (Or.inr (Or.inr (Or.inr ⟨by omega,fun _=>by omega⟩))))))
theorem une_item (S:ByteArray) (P R:List Nat) (attr:Bool) (c:Nat) (acc:List Nat) (h:lOf S = P ++ escC attr c ++ R):uneF S (S.size + 1) P.length acc = uneF S (S.size + 1) (P.length + (escC attr c).length) (acc ++ [c]):=by
 have hz:=size_of h
 simp only [List.length_append] at hz
 have hl:=(escC_len attr c).2
 have h0:=ch_at h 0 (by omega)
 rw [Nat.add_zero] at h0
 have ent:∀ b,(escC attr c).getD 0 0 = 38 → entAt S P.length = some ([c],b) → b = P.length + (escC attr c).length → uneF S (S.size + 1) P.length acc = uneF S (S.size + 1) (P.length + (escC attr c).length) (acc ++ [c]):=by
  intro b e0 e1 e2
  rw [une_step S _ acc (by omega),if_pos (by rw [h0,e0]),e1]
  dsimp only
  rw [e2]
 rcases escC_cases attr c with rfl | rfl | rfl | rfl | ⟨rfl,rfl⟩ | ⟨rfl,rfl⟩ | ⟨rfl,rfl⟩ | ⟨k1,k2⟩
 ·rw [escC_38] at h ent ⊢
  exact ent _ rfl (ent_named (N:=[97,109,112]) h (by decide) (by decide) (by decide) kAmp rfl 38 rfl) rfl
 ·rw [escC_60] at h ent ⊢
  exact ent _ rfl (ent_named (N:=[108,116]) h (by decide) (by decide) (by decide) kLt rfl 60 rfl) rfl
 ·rw [escC_62] at h ent ⊢
  exact ent _ rfl (ent_named (N:=[103,116]) h (by decide) (by decide) (by decide) kGt rfl 62 rfl) rfl
 ·rw [escC_13] at h ent ⊢
  exact ent _ rfl (ent_dec (N:=[49,51]) h (by decide) (by decide) (by decide) 13 rfl (by decide)) rfl
 ·rw [escC_34] at h ent ⊢
  exact ent _ rfl (ent_named (N:=[113,117,111,116]) h (by decide) (by decide) (by decide) kQuot rfl 34 rfl) rfl
 ·rw [escC_9] at h ent ⊢
  exact ent _ rfl (ent_dec (N:=[57]) h (by decide) (by decide) (by decide) 9 rfl (by decide)) rfl
 ·rw [escC_10] at h ent ⊢
  exact ent _ rfl (ent_dec (N:=[49,48]) h (by decide) (by decide) (by decide) 10 rfl (by decide)) rfl
 ·have e:=escC_else attr c k1 k2
  rw [e] at h0 hz ⊢
  simp only [List.getD_cons_zero] at h0
  simp only [List.length_cons,List.length_nil] at hz ⊢
  rw [une_step S _ acc (by omega),if_neg (by rw [h0];exact k1.1),h0]
theorem une_items (S:ByteArray) (attr:Bool):∀ (l P acc:List Nat),lOf S = P ++ escL attr l → uneF S (S.size + 1) P.length acc = (acc ++ l,0,0)
 | [],P,acc,h=>by
  have hz:=size_of h
  simp [escL] at hz
  rw [une_end S _ _ (by omega),List.append_nil]
 | c :: l,P,acc,h=>by
  have e:escL attr (c :: l) = escC attr c ++ escL attr l:=by unfold escL;rw [List.flatMap_cons]
  rw [e] at h
  rw [une_item S P (escL attr l) attr c acc (by rw [h];simp)]
  have:=une_items S attr l (P ++ escC attr c) (acc ++ [c]) (by rw [h];simp)
  rw [List.length_append] at this
  rw [this]
  simp
theorem esc_clean (attr:Bool) (l:List Nat) (hl:∀ c ∈ l,c < 256):∀ b ∈ escL attr l,b < 256 ∧ ¬ b = 60 ∧ ¬ b = 62 ∧ ¬ b = 13 ∧ (attr = true → ¬ b = 34 ∧ ¬ b = 9 ∧ ¬ b = 10):=by
 intro b hb
 unfold escL at hb
 rw [List.mem_flatMap] at hb
 obtain ⟨c,hc,hb⟩:=hb
 have h256:=hl c hc
 rcases escC_cases attr c with rfl | rfl | rfl | rfl | ⟨rfl,rfl⟩ | ⟨rfl,rfl⟩ | ⟨rfl,rfl⟩ | ⟨k1,k2⟩
 ·rw [escC_38] at hb;simp at hb;omega
 ·rw [escC_60] at hb;simp at hb;omega
 ·rw [escC_62] at hb;simp at hb;omega
 ·rw [escC_13] at hb;simp at hb;omega
 ·rw [escC_34] at hb;simp at hb;omega
 ·rw [escC_9] at hb;simp at hb;omega
 ·rw [escC_10] at hb;simp at hb;omega
 ·rw [escC_else attr c k1 k2] at hb
  simp at hb
  subst hb
  exact ⟨h256,k1.2.1,k1.2.2.1,k1.2.2.2,k2⟩
theorem there_facts (s:ByteArray) (attr:Bool):uneN (sOf (escL attr (lOf s))) = (lOf s,0,0):=by
 have h:lOf (sOf (escL attr (lOf s))) = [] ++ escL attr (lOf s):=by rw [lOf_sOf _ (fun b hb=>(esc_clean attr _ (lOf_lt s) b hb).1),List.nil_append]
 exact une_items _ attr _ [] [] h
def VX (l:List Nat):Prop:=∃ cs:List Nat,(∀ c ∈ cs,xmlB (c:Int) = true) ∧ l = cs.flatMap encN
theorem vx_nil:VX []:=⟨[],by simp,rfl⟩
theorem vx_app {x y:List Nat} (hx:VX x) (hy:VX y):VX (x ++ y):=by
 obtain ⟨a,ha,rfl⟩:=hx
 obtain ⟨b,hb,rfl⟩:=hy
 refine ⟨a ++ b,fun c hc=>?_,by rw [List.flatMap_append]⟩
 rcases List.mem_append.1 hc with h | h
 ·exact ha c h
 ·exact hb c h
theorem enc_low {n:Nat} (h:n < 128):encN n = [n]:=by unfold encN;rw [if_pos h]
theorem enc_high {n:Nat} (h:¬ n < 128):encN n ≠ [] ∧ ∀ b ∈ encN n,128 ≤ b:=by
 unfold encN
 rw [if_neg h]
 split
 ·exact ⟨by simp,by intro b hb;simp at hb;omega⟩
 ·split
  ·exact ⟨by simp,by intro b hb;simp at hb;omega⟩
  ·exact ⟨by simp,by intro b hb;simp at hb;omega⟩
theorem vx_enc {n:Nat} (h:xmlB (n:Int) = true):VX (encN n):=⟨[n],by simpa using h,by simp⟩
theorem vx_one {c:Nat} (h:c < 128) (hx:xmlB (c:Int) = true):VX [c]:=by rw [← enc_low h];exact vx_enc hx
theorem vx_all {l:List Nat} (h:∀ c ∈ l,c < 128 ∧ xmlB (c:Int) = true):VX l:=by
 induction l with
 | nil=>exact vx_nil
 | cons c l ih =>
  have:=vx_app (vx_one (h c (by simp)).1 (h c (by simp)).2) (ih (fun d hd=>h d (by simp [hd])))
  simpa using this
theorem vx_split:∀ {x y:List Nat} {c:Nat},VX (x ++ c :: y) → c < 128 → VX x ∧ xmlB (c:Int) = true ∧ VX y:=by
 intro x y c ⟨cs,hcs,e⟩ hc
 induction cs generalizing x with
 | nil=>simp at e
 | cons d cs ih =>
  rw [List.flatMap_cons] at e
  have hd:=hcs d (by simp)
  have hr:=fun z hz=>hcs z (List.mem_cons_of_mem _ hz)
  by_cases hl:(encN d).length ≤ x.length
  ·obtain ⟨x',rfl⟩:∃ x',x = encN d ++ x':=by
    refine ⟨x.drop (encN d).length,?_⟩
    have h1:=congrArg (List.take (encN d).length) e
    rw [List.take_append_of_le_length hl,List.take_left] at h1
    conv=>lhs;rw [← List.take_append_drop (encN d).length x,h1]
   rw [List.append_assoc,List.append_cancel_left_eq] at e
   obtain ⟨h1,h2,h3⟩:=ih hr e
   exact ⟨vx_app (vx_enc hd) h1,h2,h3⟩
  ·have hin:c ∈ encN d:=by
    have h1:=congrArg (fun l=>l[x.length]?) e
    rw [List.getElem?_append_right (Nat.le_refl _),Nat.sub_self,List.getElem?_cons_zero,List.getElem?_append_left (by omega)] at h1
    exact List.mem_of_getElem? h1.symm
   by_cases h8:d < 128
   ·rw [enc_low h8] at hin hl e
    have:x = []:=by
     cases x with
     | nil=>rfl
     | cons _ _=>simp at hl
    subst this
    have hdc:c = d:=by simpa using hin
    subst hdc
    simp at e
    exact ⟨vx_nil,hd,⟨cs,hr,e⟩⟩
   ·have:=(enc_high h8).2 c hin
    omega
theorem xml_bd {n:Nat} (h:xmlB (n:Int) = true):n ≤ 1114111 ∧ (n ≤ 55295 ∨ 57344 ≤ n):=by
 unfold xmlB at h
 simp only [Bool.or_eq_true,Bool.and_eq_true,decide_eq_true_eq] at h
 omega
theorem seq_enc {t:ByteArray} {n:Nat} {r:List Nat} (h:lOf t = encN n ++ r) (hx:xmlB (n:Int) = true):seqN t = (n,(encN n).length):=by
 have hb:=xml_bd hx
 have hz:t.size = (encN n).length + r.length:=by rw [← lOf_length,h,List.length_append]
 have hc:∀ i,i < (encN n).length → ch t i = (encN n).getD i 0:=by
  intro i hi
  rw [ch_lOf,h]
  simp only [List.getD]
  rw [List.getElem?_append_left hi]
 revert hz hc
 unfold encN
 split
 ·rename_i h1
  intro hz hc
  have c0:ch t 0 = n:=hc 0 (by simp)
  rw [seq1 t (by rw [hz];exact Nat.le_add_right _ _) (by omega),c0];rfl
 ·split
  ·rename_i h1 h2
   intro hz hc
   have c0:ch t 0 = 192 + n / 64:=hc 0 (by simp)
   have c1:ch t 1 = 128 + n % 64:=hc 1 (by simp)
   rw [seq2 t (by rw [hz];exact Nat.le_add_right _ _) (by omega) (by omega) (by omega) (by omega),c0,c1]
   simp only [List.length_cons,List.length_nil,Prod.mk.injEq]
   exact ⟨by omega,trivial⟩
  ·split
   ·rename_i h1 h2 h3
    intro hz hc
    have c0:ch t 0 = 224 + n / 4096:=hc 0 (by simp)
    have c1:ch t 1 = 128 + n / 64 % 64:=hc 1 (by simp)
    have c2:ch t 2 = 128 + n % 64:=hc 2 (by simp)
    have l1:=lo3 (ch t 0) (by omega) (by omega)
    have l2:=hi3 (ch t 0) (by omega) (by omega)
    rw [seq3 t (by rw [hz];exact Nat.le_add_right _ _) (by omega) (by omega) (by rw [l1,c0,c1];split <;> omega) (by rw [l2,c0,c1];split <;> omega) (by omega) (by omega),c0,c1,c2]
    simp only [List.length_cons,List.length_nil,Prod.mk.injEq]
    exact ⟨by omega,trivial⟩
   ·rename_i h1 h2 h3
    intro hz hc
    have c0:ch t 0 = 240 + n / 262144:=hc 0 (by simp)
    have c1:ch t 1 = 128 + n / 4096 % 64:=hc 1 (by simp)
    have c2:ch t 2 = 128 + n / 64 % 64:=hc 2 (by simp)
    have c3:ch t 3 = 128 + n % 64:=hc 3 (by simp)
    have l1:=lo4 (ch t 0) (by omega) (by omega)
    have l2:=hi4 (ch t 0) (by omega) (by omega)
    rw [seq4 t (by rw [hz];exact Nat.le_add_right _ _) (by omega) (by omega) (by rw [l1,c0,c1];split <;> omega) (by rw [l2,c0,c1];split <;> omega) (by omega) (by omega) (by omega) (by omega),c0,c1,c2,c3]
    simp only [List.length_cons,List.length_nil,Prod.mk.injEq]
    exact ⟨by omega,trivial⟩
theorem lof_cons (t:ByteArray) (k:Nat) (h:k < t.size):(lOf t).drop k = ch t k :: (lOf t).drop (k + 1):=by
 have h2:k < (lOf t).length:=by rw [lOf_length];exact h
 rw [List.drop_eq_getElem_cons h2,ch_lOf]
 simp [List.getD,h2]
theorem seq_dec {t:ByteArray} (h0:0 < t.size) (h:(seqN t).2 ≠ 0):lOf t = encN (seqN t).1 ++ (lOf t).drop (seqN t).2:=by
 have l0:=lof_cons t 0 h0
 rw [List.drop_zero] at l0
 have hb:begB (rsz (ch t 0)) (rlo (ch t 0)) (rhi (ch t 0)) t = true:=by
  unfold seqN at h
  dsimp only at h
  split at h
  ·assumption
  ·exact absurd rfl h
 unfold begB at hb
 simp only [Bool.and_eq_true,Bool.or_eq_true,decide_eq_true_eq] at hb
 obtain ⟨hk,hr⟩:=hb
 by_cases c1:ch t 0 ≤ 127
 ·rw [seq1 t h0 c1,enc_low (by omega)]
  exact l0
 ·have hlt:¬ ch t 0 < 194:=fun hh=>h (by rw [seq_low t (by omega) hh])
  have hz:rsz (ch t 0) = 2 ∧ ch t 0 ≤ 223 ∨ rsz (ch t 0) = 3 ∧ 224 ≤ ch t 0 ∧ ch t 0 ≤ 239 ∨ rsz (ch t 0) = 4 ∧ 240 ≤ ch t 0 ∧ ch t 0 ≤ 244 ∨ rsz (ch t 0) = 0:=by
   unfold rsz
   rw [if_neg c1,if_neg hlt]
   split
   ·omega
   ·split
    ·omega
    ·split <;> omega
  rcases hz with ⟨e,hc⟩ | ⟨e,hc,hc2⟩ | ⟨e,hc,hc2⟩ | e
  ·rw [e] at hk hr
   have l1:=lof_cons t 1 (by omega)
   have r1:rlo (ch t 0) = 128:=by unfold rlo;rw [if_neg c1,if_neg hlt,if_pos hc]
   have r2:rhi (ch t 0) = 191:=by unfold rhi;rw [if_neg c1,if_neg hlt,if_pos hc]
   rw [r1,r2] at hr
   have q:=seq2 t hk (by omega) hc (by omega) (by omega)
   rw [q]
   dsimp only
   have en:encN ((ch t 0 - 192) * 64 + (ch t 1 - 128)) = [ch t 0,ch t 1]:=by
    unfold encN
    rw [if_neg (by omega),if_pos (by omega),List.cons.injEq,List.cons.injEq]
    exact ⟨by omega,by omega,rfl⟩
   rw [en,List.cons_append,List.cons_append,List.nil_append,← l1]
   exact l0
  ·rw [e] at hk hr
   have l1:=lof_cons t 1 (by omega)
   have l2:=lof_cons t 2 (by omega)
   have g1:=lo3 _ hc hc2
   have g2:=hi3 _ hc hc2
   have hr':rlo (ch t 0) ≤ ch t 1 ∧ ch t 1 ≤ rhi (ch t 0) ∧ tailB (ch t 2) = true:=by
    rcases hr with hr | hr
    ·omega
    ·exact ⟨hr.1.1.1.2,hr.1.1.2,hr.1.2.resolve_left (by omega)⟩
   obtain ⟨a1,a2,a3⟩:=hr'
   unfold tailB at a3
   simp only [Bool.and_eq_true,decide_eq_true_eq] at a3
   have q:=seq3 t hk hc hc2 a1 a2 a3.1 a3.2
   rw [q]
   dsimp only
   rw [g1] at a1
   rw [g2] at a2
   have b1:128 ≤ ch t 1:=by split at a1 <;> omega
   have b2:ch t 1 ≤ 191:=by split at a2 <;> omega
   have b3:ch t 0 = 224 → 160 ≤ ch t 1:=fun hh=>by rwa [if_pos hh] at a1
   have en:encN ((ch t 0 - 224) * 4096 + (ch t 1 - 128) * 64 + (ch t 2 - 128)) = [ch t 0,ch t 1,ch t 2]:=by
    unfold encN
    rw [if_neg (by omega),if_neg (by omega),if_pos (by omega),List.cons.injEq,List.cons.injEq,List.cons.injEq]
    exact ⟨by omega,by omega,by omega,rfl⟩
   rw [en,List.cons_append,List.cons_append,List.cons_append,List.nil_append,← l2,← l1]
   exact l0
  ·rw [e] at hk hr
   have l1:=lof_cons t 1 (by omega)
   have l2:=lof_cons t 2 (by omega)
   have l3:=lof_cons t 3 (by omega)
   have g1:=lo4 _ hc hc2
   have g2:=hi4 _ hc hc2
   have hr':rlo (ch t 0) ≤ ch t 1 ∧ ch t 1 ≤ rhi (ch t 0) ∧ tailB (ch t 2) = true ∧ tailB (ch t 3) = true:=by
    rcases hr with hr | hr
    ·omega
    ·exact ⟨hr.1.1.1.2,hr.1.1.2,hr.1.2.resolve_left (by omega),hr.2.resolve_left (by omega)⟩
   obtain ⟨a1,a2,a3,a4⟩:=hr'
   unfold tailB at a3 a4
   simp only [Bool.and_eq_true,decide_eq_true_eq] at a3 a4
   have q:=seq4 t hk hc hc2 a1 a2 a3.1 a3.2 a4.1 a4.2
   rw [q]
   dsimp only
   rw [g1] at a1
   rw [g2] at a2
   have b1:128 ≤ ch t 1:=by split at a1 <;> omega
   have b2:ch t 1 ≤ 191:=by split at a2 <;> omega
   have b3:ch t 0 = 240 → 144 ≤ ch t 1:=fun hh=>by rwa [if_pos hh] at a1
   have en:encN ((ch t 0 - 240) * 262144 + (ch t 1 - 128) * 4096 + (ch t 2 - 128) * 64 + (ch t 3 - 128)) = [ch t 0,ch t 1,ch t 2,ch t 3]:=by
    unfold encN
    rw [if_neg (by omega),if_neg (by omega),if_neg (by omega),List.cons.injEq,List.cons.injEq,List.cons.injEq,List.cons.injEq]
    exact ⟨by omega,by omega,by omega,by omega,rfl⟩
   rw [en,List.cons_append,List.cons_append,List.cons_append,List.cons_append,List.nil_append,← l3,← l2,← l1]
   exact l0
  ·exfalso
   rw [e] at hr
   omega
theorem lof_from (s:ByteArray) (a:Nat):lOf (s.extract a s.size) = (lOf s).drop a:=by
 rw [lOf_extract,List.take_of_length_le (by rw [List.length_drop,lOf_length];omega)]
theorem fault_vx (s:ByteArray):∀ (n a:Nat),s.size - a < n → a ≤ s.size → ((faultF xmlB s (s.size + 1) a).1 = 0 ↔ VX ((lOf s).drop a))
 | 0,a,hn,_=>by omega
 | n + 1,a,hn,ha=>by
  by_cases h:s.size ≤ a
  ·have e:(lOf s).drop a = []:=List.drop_eq_nil_of_le (by rw [lOf_length];exact h)
   rw [faultF,if_pos h,e]
   exact ⟨fun _=>vx_nil,fun _=>rfl⟩
  ·have hz:(s.extract a s.size).size = s.size - a:=size_ext s a s.size (Nat.le_refl _)
   rw [fault_step xmlB s a (by omega)]
   constructor
   ·intro hf
    by_cases h2:(seqN (s.extract a s.size)).2 = 0
    ·rw [if_pos h2] at hf;exact absurd hf (by simp)
    ·rw [if_neg h2] at hf
     by_cases hx:xmlB ((seqN (s.extract a s.size)).1:Int) = true
     ·rw [if_pos hx] at hf
      have hd:=seq_dec (by omega) h2
      have hle:=seqN_size_le (s.extract a s.size)
      have ih:=(fault_vx s n (a + (seqN (s.extract a s.size)).2) (by omega) (by omega)).1 hf
      rw [lof_from] at hd
      rw [hd,List.drop_drop]
      exact vx_app (vx_enc hx) ih
     ·rw [if_neg hx] at hf;exact absurd hf (by simp)
   ·rintro ⟨cs,hcs,e⟩
    cases cs with
    | nil =>
     have:=congrArg List.length e
     rw [List.length_drop,lOf_length] at this
     simp at this
     omega
    | cons c cs =>
     have hx:=hcs c (by simp)
     rw [List.flatMap_cons,← lof_from] at e
     have q:=seq_enc e hx
     have hl:0 < (encN c).length:=by
      by_cases h8:c < 128
      ·rw [enc_low h8];simp
      ·exact List.length_pos_iff.2 (enc_high h8).1
     rw [q]
     dsimp only
     rw [if_neg (by omega),if_pos hx]
     have hle:=congrArg List.length e
     rw [lOf_length,hz,List.length_append] at hle
     refine (fault_vx s n (a + (encN c).length) (by omega) (by omega)).2 ⟨cs,fun z hz=>hcs z (by simp [hz]),?_⟩
     rw [← List.drop_drop,← lof_from,e,List.drop_left]
theorem chars_iff (s:ByteArray):(faultN xmlB s).1 = 0 ↔ VX (lOf s):=by
 have:=fault_vx s (s.size + 1) 0 (by omega) (Nat.zero_le _)
 rwa [List.drop_zero] at this
theorem body_end {s:ByteArray} {q:Nat} (hq:q ≤ s.size) (h:endB s q = true):q + (bodyS s q).size < s.size ∧ ch s (q + (bodyS s q).size) = 59:=by
 have hb:=bodyS_size s q
 have hz:(s.extract q s.size).size = s.size - q:=size_ext s q s.size (Nat.le_refl _)
 have hl:=(hb.2 hq).2 h
 unfold endB at h
 have hf:=fst_at (s.extract q s.size) 59 (of_decide_eq_true h)
 rw [ch_ext s q s.size _ (by rw [← hb.1];omega),← hb.1] at hf
 exact ⟨hl,hf⟩
theorem num_vx {base:Nat} {s:ByteArray} {a k:Nat} (ha:a + k ≤ s.size) (hk:1 ≤ k) {M:List Nat} {b:Nat} (h:numAt base s a k = some (M,b)):VX M ∧ M ≠ [] ∧ a + 1 < b ∧ ch s (b - 1) = 59:=by
 unfold numAt at h
 split at h
 ·rename_i hc
  split at h
  ·rename_i n hn
   split at h
   ·rename_i hx
    injection h with h
    injection h with h1 h2
    have he:=body_end ha hc.1
    refine ⟨by rw [← h1];exact vx_enc hx,by rw [← h1];exact (encN_ne n).1,by omega,?_⟩
    rw [← h2,show a + (k + (bodyS s (a + k)).size + 1) - 1 = a + k + (bodyS s (a + k)).size by omega]
    exact he.2
   ·cases h
  ·cases h
 ·cases h
theorem name_vx {l:List UInt8} {b:Nat} (h:nameB l = some b):b < 128 ∧ xmlB (b:Int) = true:=by
 unfold nameB at h
 repeat (split at h;· injection h with h;rw [← h];decide)
 cases h
theorem ent_vx {s:ByteArray} {a:Nat} (ha:a < s.size) {M:List Nat} {b:Nat} (h:entAt s a = some (M,b)):VX M ∧ M ≠ [] ∧ a + 1 < b ∧ ch s (b - 1) = 59:=by
 unfold entAt at h
 split at h
 ·exact num_vx (by omega) (by decide) h
 ·split at h
  ·exact num_vx (by omega) (by decide) h
  ·split at h
   ·rename_i he
    split at h
    ·rename_i c hc
     injection h with h
     injection h with h1 h2
     have hn:=name_vx hc
     have hb:=body_end (by omega) he
     refine ⟨by rw [← h1];exact vx_one hn.1 hn.2,by rw [← h1];simp,by omega,?_⟩
     rw [← h2,show a + (1 + (bodyS s (a + 1)).size + 1) - 1 = a + 1 + (bodyS s (a + 1)).size by omega]
     exact hb.2
    ·cases h
   ·cases h
theorem une_vx (s:ByteArray):∀ (n a:Nat) (acc t:List Nat),s.size - a < n → a ≤ s.size → uneF s (s.size + 1) a acc = (t,0,0) → VX (acc ++ (lOf s).drop a) → VX t ∧ t.length ≤ acc.length + (s.size - a) ∧ acc.length ≤ t.length ∧ (a < s.size → acc.length < t.length)
 | 0,a,_,_,hn,_,_,_=>by omega
 | n + 1,a,acc,t,hn,ha,hu,hv=>by
  by_cases h:s.size ≤ a
  ·rw [une_end s a acc h] at hu
   injection hu with hu
   rw [List.drop_eq_nil_of_le (by rw [lOf_length];exact h),List.append_nil] at hv
   rw [← hu]
   exact ⟨hv,by omega,Nat.le_refl _,fun hh=>by omega⟩
  ·rw [une_step s a acc (by omega)] at hu
   have hc:=lof_cons s a (by omega)
   split at hu
   ·rename_i h38
    split at hu
    ·rename_i M b he
     have hbd:=entAt_bd (by omega) he
     obtain ⟨hM,hne,hb1,h59⟩:=ent_vx (by omega) he
     rw [hc,h38] at hv
     obtain ⟨v1,_,v2⟩:=vx_split hv (by decide)
     have hc2:=lof_cons s (b - 1) (by omega)
     rw [show b - 1 + 1 = b by omega,h59] at hc2
     have e:(lOf s).drop (a + 1) = ((lOf s).drop (a + 1)).take (b - 1 - (a + 1)) ++ 59 :: (lOf s).drop b:=by
      conv=>lhs;rw [← List.take_append_drop (b - 1 - (a + 1)) ((lOf s).drop (a + 1))]
      rw [List.drop_drop,show a + 1 + (b - 1 - (a + 1)) = b - 1 by omega,hc2]
     rw [e] at v2
     obtain ⟨_,_,v3⟩:=vx_split v2 (by decide)
     have ih:=une_vx s n b (acc ++ M) t (by omega) (by omega) hu (by rw [List.append_assoc];exact vx_app v1 (vx_app hM v3))
     rw [List.length_append] at ih
     have hl:0 < M.length:=List.length_pos_iff.2 hne
     exact ⟨ih.1,by omega,by omega,fun _=>by omega⟩
    ·cases hu
   ·have ih:=une_vx s n (a + 1) (acc ++ [ch s a]) t (by omega) (by omega) hu (by rw [List.append_assoc];rw [hc] at hv;exact hv)
    rw [List.length_append,List.length_singleton] at ih
    exact ⟨ih.1,by omega,by omega,fun _=>by omega⟩
theorem esc_low {attr:Bool} {c:Nat} (h:c < 128) (hx:xmlB (c:Int) = true):VX (escC attr c):=by
 rcases escC_cases attr c with h1 | h1 | h1 | h1 | h1 | h1 | h1 | h1
 ·subst h1;rw [escC_38];exact vx_all (by decide)
 ·subst h1;rw [escC_60];exact vx_all (by decide)
 ·subst h1;rw [escC_62];exact vx_all (by decide)
 ·subst h1;rw [escC_13];exact vx_all (by decide)
 ·obtain ⟨rfl,rfl⟩:=h1;rw [escC_34];exact vx_all (by decide)
 ·obtain ⟨rfl,rfl⟩:=h1;rw [escC_9];exact vx_all (by decide)
 ·obtain ⟨rfl,rfl⟩:=h1;rw [escC_10];exact vx_all (by decide)
 ·rw [escC_else attr c h1.1 h1.2];exact vx_one h hx
theorem esc_same {attr:Bool} {l:List Nat} (h:∀ c ∈ l,128 ≤ c):escL attr l = l:=by
 induction l with
 | nil=>rfl
 | cons c l ih =>
  have hc:=h c (by simp)
  unfold escL at ih ⊢
  rw [List.flatMap_cons,ih (fun d hd=>h d (by simp [hd])),escC_else attr c (by omega) (by omega)]
  rfl
theorem esc_vx {attr:Bool} {l:List Nat} (h:VX l):VX (escL attr l):=by
 obtain ⟨cs,hcs,rfl⟩:=h
 induction cs with
 | nil=>exact vx_nil
 | cons c cs ih =>
  have e:escL attr (List.flatMap encN (c :: cs)) = escL attr (encN c) ++ escL attr (List.flatMap encN cs):=by
   unfold escL;rw [List.flatMap_cons,List.flatMap_append]
  rw [e]
  refine vx_app ?_ (ih fun z hz=>hcs z (by simp [hz]))
  have hx:=hcs c (by simp)
  by_cases h8:c < 128
  ·rw [enc_low h8]
   have:=esc_low (attr:=attr) h8 hx
   unfold escL
   rwa [List.flatMap_singleton]
  ·rw [esc_same (enc_high h8).2]
   exact vx_enc hx
theorem name_ch {s:ByteArray} (h:xmlNameB s = true):0 < s.size ∧ ∀ i,i < s.size → nxml (ch s i) (decide (i = 0)) = true:=of_decide_eq_true h
theorem nxml_bd {c:Nat} {f:Bool} (h:nxml c f = true):45 ≤ c ∧ c ≤ 122 ∧ c ≠ 47 ∧ c ≠ 60 ∧ c ≠ 61 ∧ c ≠ 62 ∧ c ≠ 63 ∧ xmlB (c:Int) = true:=by
 have h2:45 ≤ c ∧ c ≤ 122 ∧ c ≠ 47 ∧ c ≠ 60 ∧ c ≠ 61 ∧ c ≠ 62 ∧ c ≠ 63:=by
  unfold nxml nlet ndig at h
  simp only [Bool.or_eq_true,Bool.and_eq_true,decide_eq_true_eq] at h
  omega
 refine ⟨h2.1,h2.2.1,h2.2.2.1,h2.2.2.2.1,h2.2.2.2.2.1,h2.2.2.2.2.2.1,h2.2.2.2.2.2.2,?_⟩
 unfold xmlB
 simp only [Bool.or_eq_true,Bool.and_eq_true,decide_eq_true_eq]
 omega
theorem name_mem {s:ByteArray} (h:xmlNameB s = true):∀ c ∈ lOf s,45 ≤ c ∧ c ≤ 122 ∧ c ≠ 47 ∧ c ≠ 60 ∧ c ≠ 61 ∧ c ≠ 62 ∧ c ≠ 63 ∧ xmlB (c:Int) = true:=by
 intro c hc
 obtain ⟨i,hi,e⟩:=List.mem_iff_getElem.1 hc
 have hs:i < s.size:=by rw [← lOf_length];exact hi
 have:=nxml_bd ((name_ch h).2 i hs)
 rw [ch_lOf] at this
 simp only [List.getD,List.getElem?_eq_getElem hi,Option.getD_some,e] at this
 exact this
theorem name_xml {s:ByteArray} (h:xmlNameB s = true):VX (lOf s):=vx_all fun c hc=>⟨by have:=name_mem h c hc;omega,(name_mem h c hc).2.2.2.2.2.2.2⟩
open Go.Lib Go
abbrev Dr (s:ByteArray) (a:Nat):List UInt8:=s.data.toList.drop a
theorem dr_cons {s:ByteArray} {a:Nat} {c:UInt8} {l:List UInt8} (h:Dr s a = c :: l):a < s.size ∧ ch s a = c.toNat ∧ Dr s (a + 1) = l:=by
 have hl:=congrArg List.length h
 rw [List.length_drop,tl_len,List.length_cons] at hl
 unfold Dr at h ⊢
 have h1:s.data.toList[a]? = some c:=by
  have:=congrArg (fun l=>l[0]?) h
  rwa [List.getElem?_drop,Nat.add_zero] at this
 refine ⟨by omega,by unfold ch;simp only [List.getD];rw [h1];rfl,?_⟩
 rw [← List.drop_drop,h];rfl
theorem dr_at {s:ByteArray} {a:Nat} {c:UInt8} {l:List UInt8} (n:Nat) (h:Dr s a = c :: l) (hn:c.toNat = n):a < s.size ∧ ch s a = n ∧ Dr s (a + 1) = l:=by rw [← hn];exact dr_cons h
theorem dr_app {s:ByteArray} {a:Nat} {x y:List UInt8} (h:Dr s a = x ++ y):Dr s (a + x.length) = y:=by
 unfold Dr at h ⊢
 rw [← List.drop_drop,h,List.drop_left]
theorem dr_le {s:ByteArray} {a:Nat} {x y:List UInt8} (ha:a ≤ s.size) (h:Dr s a = x ++ y):a + x.length ≤ s.size:=by
 have hl:=congrArg List.length h
 rw [List.length_drop,tl_len,List.length_append] at hl
 omega
theorem dr_nil {s:ByteArray} {a:Nat} (h:Dr s a = []):s.size ≤ a:=by
 have hl:=congrArg List.length h
 rw [List.length_drop,tl_len,List.length_nil] at hl
 omega
theorem dr_ext {s:ByteArray} {a:Nat} {v:ByteArray} {y:List UInt8} (h:Dr s a = v.data.toList ++ y):s.extract a (a + v.size) = v:=by
 apply ba_ext
 unfold Dr at h
 rw [list_ext,h,Nat.add_sub_cancel_left,← tl_len v,List.take_left]
theorem find_hit {p:UInt8 → Bool} {x y:List UInt8} {c:UInt8} (hx:∀ b ∈ x,p b = false) (hc:p c = true):(x ++ c :: y).findIdx p = x.length:=by
 induction x with
 | nil=>rw [List.nil_append,List.findIdx_cons,hc];rfl
 | cons b x ih =>
  rw [List.cons_append,List.findIdx_cons,hx b (by simp),ih (fun d hd=>hx d (by simp [hd]))]
  rfl
theorem find_none {p:UInt8 → Bool} {x:List UInt8} (hx:∀ b ∈ x,p b = false):x.findIdx p = x.length:=by
 induction x with
 | nil=>rfl
 | cons b x ih =>
  rw [List.findIdx_cons,hx b (by simp),ih (fun d hd=>hx d (by simp [hd]))]
  rfl
theorem upN_hit {E:List UInt8} {s:ByteArray} {a:Nat} {x y:List UInt8} {c:UInt8} (h:Dr s a = x ++ c :: y) (hx:∀ b ∈ x,E.contains b = false) (hc:E.contains c = true):upN E s a = a + x.length:=by
 unfold upN
 unfold Dr at h
 rw [h,find_hit hx hc]
theorem upN_none {E:List UInt8} {s:ByteArray} {a:Nat} {x:List UInt8} (h:Dr s a = x) (hx:∀ b ∈ x,E.contains b = false):upN E s a = a + x.length:=by
 unfold upN
 unfold Dr at h
 rw [h,find_none hx]
theorem skN_hit {s:ByteArray} {a:Nat} {y:List UInt8} {c:UInt8} (h:Dr s a = c :: y) (hc:BLs.contains c = false):skN s a = a:=by
 unfold skN
 unfold Dr at h
 rw [h,List.findIdx_cons,hc]
 rfl
theorem skN_one {s:ByteArray} {a:Nat} {y:List UInt8} {b c:UInt8} (h:Dr s a = b :: c :: y) (hb:BLs.contains b = true) (hc:BLs.contains c = false):skN s a = a + 1:=by
 unfold skN
 unfold Dr at h
 rw [h,List.findIdx_cons,hb,List.findIdx_cons,hc]
 rfl
theorem name_byte {nm:ByteArray} (h:xmlNameB nm = true) {b:UInt8} (hb:b ∈ nm.data.toList):45 ≤ b.toNat ∧ b.toNat ≤ 122 ∧ b.toNat ≠ 47 ∧ b.toNat ≠ 60 ∧ b.toNat ≠ 61 ∧ b.toNat ≠ 62 ∧ b.toNat ≠ 63:=by
 have:=name_mem h b.toNat (List.mem_map.2 ⟨b,hb,rfl⟩)
 omega
theorem byte_ne {b c:UInt8} (h:b.toNat ≠ c.toNat):(b == c) = false:=by
 rw [beq_eq_false_iff_ne]
 exact fun e=>h (by rw [e])
theorem name_NE {b:UInt8} (h:45 ≤ b.toNat ∧ b.toNat ≤ 122 ∧ b.toNat ≠ 47 ∧ b.toNat ≠ 60 ∧ b.toNat ≠ 61 ∧ b.toNat ≠ 62 ∧ b.toNat ≠ 63):NEb.data.toList.contains b = false ∧ BLs.contains b = false:=by
 have e:∀ c:UInt8,b.toNat ≠ c.toNat → (b == c) = false:=fun c hc=>byte_ne hc
 constructor
 ·show List.contains [9,10,13,32,60,62,47,61,34,39,38] b = false
  simp only [List.contains_cons,List.contains_nil,Bool.or_false,Bool.or_eq_false_iff]
  refine ⟨e _ ?_,e _ ?_,e _ ?_,e _ ?_,e _ ?_,e _ ?_,e _ ?_,e _ ?_,e _ ?_,e _ ?_,e _ ?_⟩ <;> simp <;> omega
 ·show List.contains [9,10,13,32] b = false
  simp only [List.contains_cons,List.contains_nil,Bool.or_false,Bool.or_eq_false_iff]
  refine ⟨e _ ?_,e _ ?_,e _ ?_,e _ ?_⟩ <;> simp <;> omega
theorem name_cons {nm:ByteArray} (h:xmlNameB nm = true):∃ b r,nm.data.toList = b :: r ∧ 45 ≤ b.toNat ∧ b.toNat ≤ 122 ∧ b.toNat ≠ 47 ∧ b.toNat ≠ 60 ∧ b.toNat ≠ 61 ∧ b.toNat ≠ 62 ∧ b.toNat ≠ 63:=by
 have h0:=(name_ch h).1
 cases e:nm.data.toList with
 | nil=>rw [← tl_len,e] at h0;exact absurd h0 (by decide)
 | cons b r=>exact ⟨b,r,rfl,name_byte h (by rw [e];simp)⟩
theorem nameZ_at {s nm:ByteArray} {a:Nat} {c:UInt8} {y:List UInt8} (h:Dr s a = nm.data.toList ++ c :: y) (hn:xmlNameB nm = true) (hc:NEb.data.toList.contains c = true):nameZ s a = .val nm (a + nm.size):=by
 have hu:upN NEb.data.toList s a = a + nm.size:=by
  rw [upN_hit h (fun b hb=>(name_NE (name_byte hn hb)).1) hc,tl_len]
 obtain ⟨b,r,e,_⟩:=name_cons hn
 have ha:a < s.size:=by rw [e] at h;exact (dr_cons h).1
 unfold nameZ
 rw [if_neg (by omega),hu,dr_ext h,if_pos hn]
theorem expZ_at {s:ByteArray} {a:Nat} {c:UInt8} {y:List UInt8} (h:Dr s a = c :: y):expZ s a c.toNat = none:=by
 obtain ⟨h1,h2,_⟩:=dr_cons h
 unfold expZ
 rw [if_neg (by omega),if_pos h2]
theorem p_open {s nm:ByteArray} {a:Nat} {c:UInt8} {y:List UInt8} (h:Dr s a = 60 :: (nm.data.toList ++ c :: y)) (hn:xmlNameB nm = true) (hc:NEb.data.toList.contains c = true) :
  pieceZ s (some 88) a = .told (some 153) (a + 1 + nm.size) ⟨0,nm,E0,a⟩:=by
 obtain ⟨h1,h2,h3⟩:=dr_at 60 h rfl
 obtain ⟨b,r,e,hb⟩:=name_cons hn
 have h4:=h3
 rw [e] at h4
 obtain ⟨g1,g2,_⟩:=dr_cons h4
 have hz:contentZ s a = .go (some 116) a none:=by
  unfold contentZ
  rw [if_neg (by omega),if_pos h2,if_neg (by omega),if_neg (by omega),if_neg (by omega)]
 have hz2:startZ s a = .go (some 153) (a + 1 + nm.size) (some ⟨0,nm,E0,a⟩):=by
  unfold startZ
  rw [nameZ_at h3 hn hc]
 show runZ s 2 _ a = _
 simp only [runZ,stepZ_content,hz,stepZ_startTag,hz2]
theorem p_end {s:ByteArray} {a:Nat} {y:List UInt8} (h:Dr s a = 62 :: y) :
  pieceZ s (some 153) a = .told (some 88) (a + 1) ⟨2,E0,E0,a⟩:=by
 obtain ⟨h1,h2,h3⟩:=dr_at 62 h rfl
 have hz:inTagZ s a = .go (some 170) a none:=by
  unfold inTagZ
  rw [skN_hit h (by decide),if_neg (by omega),if_pos h2]
 show runZ s 2 _ a = _
 simp only [runZ,stepZ_inTag,hz,stepZ_tagEnd,tagEndZ]
theorem p_empty {s:ByteArray} {a:Nat} {y:List UInt8} (h:Dr s a = 47 :: 62 :: y) :
  pieceZ s (some 153) a = .told (some 88) (a + 1 + 1) ⟨3,E0,E0,a⟩:=by
 obtain ⟨h1,h2,h3⟩:=dr_at 47 h rfl
 have hz:inTagZ s a = .go (some 171) a none:=by
  unfold inTagZ
  rw [skN_hit h (by decide),if_neg (by omega),if_neg (by rw [h2];decide),if_pos h2]
 have hz2:emptyEndZ s a = .go (some 88) (a + 1 + 1) (some ⟨3,E0,E0,a⟩):=by
  unfold emptyEndZ
  rw [show (62:Nat) = (62:UInt8).toNat from rfl,expZ_at h3]
 show runZ s 2 _ a = _
 simp only [runZ,stepZ_inTag,hz,stepZ_emptyEnd,hz2]
theorem p_close {s nm:ByteArray} {a:Nat} {y:List UInt8} (h:Dr s a = 60 :: 47 :: (nm.data.toList ++ 62 :: y)) (hn:xmlNameB nm = true) :
  pieceZ s (some 88) a = .told (some 88) (a + 2 + nm.size + 1) ⟨4,nm,E0,a⟩:=by
 obtain ⟨h1,h2,h3⟩:=dr_at 60 h rfl
 obtain ⟨g1,g2,g3⟩:=dr_at 47 h3 rfl
 have hz:contentZ s a = .go (some 114) a none:=by
  unfold contentZ
  rw [if_neg (by omega),if_pos h2,if_pos ⟨g1,g2⟩]
 have h5:Dr s (a + 2 + nm.size) = 62 :: y:=by rw [← tl_len];exact dr_app g3
 have hz2:endZ s a = .go (some 88) (a + 2 + nm.size + 1) (some ⟨4,nm,E0,a⟩):=by
  unfold endZ
  rw [nameZ_at g3 hn (by decide)]
  dsimp only
  rw [skN_hit h5 (by decide),show (62:Nat) = (62:UInt8).toNat from rfl,expZ_at h5]
 show runZ s 2 _ a = _
 simp only [runZ,stepZ_content,hz,stepZ_endTag,hz2]
theorem plain_esc (attr:Bool) (vl:ByteArray) (p:Nat):plainZ (escB attr vl) p = (none,vl):=by
 unfold plainZ escB
 rw [there_facts]
 simp only [if_true,sOf_lOf]
theorem esc_byte (attr:Bool) (vl:ByteArray) {b:UInt8} (hb:b ∈ (escB attr vl).data.toList):b.toNat ≠ 60 ∧ (attr = true → b.toNat ≠ 34):=by
 unfold escB sOf at hb
 simp only [List.mem_map] at hb
 obtain ⟨c,hc,rfl⟩:=hb
 have:=esc_clean attr (lOf vl) (lOf_lt vl) c hc
 have e:(UInt8.ofNat c).toNat = c:=by simp [UInt8.toNat_ofNat'];omega
 rw [e]
 exact ⟨this.2.1,fun h=>(this.2.2.2.2 h).1⟩
theorem p_attr {s nm vl:ByteArray} {a:Nat} {y:List UInt8} (h:Dr s a = 32 :: (nm.data.toList ++ 61 :: 34 :: ((escB true vl).data.toList ++ 34 :: y))) (hn:xmlNameB nm = true) :
  pieceZ s (some 153) a = .told (some 153) (a + 1 + nm.size + 2 + (escB true vl).size + 1) ⟨1,nm,vl,a + 1⟩:=by
 obtain ⟨b,r,e,hb⟩:=name_cons hn
 have h':=h
 rw [e] at h'
 have hs:=skN_one h' (by decide) (name_NE hb).2
 obtain ⟨h1,h2,h3⟩:=dr_at 32 h rfl
 have h4:=h3
 rw [e] at h4
 obtain ⟨g1,g2,_⟩:=dr_cons h4
 have hz:inTagZ s a = .go (some 172) (a + 1) none:=by
  unfold inTagZ
  rw [hs,if_neg (by omega),if_neg (by omega),if_neg (by omega),if_pos (by omega)]
 have h5:Dr s (a + 1 + nm.size) = 61 :: 34 :: ((escB true vl).data.toList ++ 34 :: y):=by rw [← tl_len];exact dr_app h3
 obtain ⟨i1,i2,i3⟩:=dr_at 61 h5 rfl
 obtain ⟨j1,j2,j3⟩:=dr_at 34 i3 rfl
 have k1:Dr s (a + 1 + nm.size + 1 + 1 + (escB true vl).size) = 34 :: y:=by
  have:=dr_app j3
  rwa [tl_len] at this
 obtain ⟨l1,l2,l3⟩:=dr_at 34 k1 rfl
 have hu:upN [60,34] s (a + 1 + nm.size + 1 + 1) = a + 1 + nm.size + 1 + 1 + (escB true vl).size:=by
  rw [upN_hit j3 (fun b hb=>?_) (by decide),tl_len]
  have:=esc_byte true vl hb
  simp only [List.contains_cons,List.contains_nil,Bool.or_false,Bool.or_eq_false_iff]
  exact ⟨byte_ne this.1,byte_ne (this.2 rfl)⟩
 have hz2:attrZ s (a + 1) = .go (some 153) (a + 1 + nm.size + 2 + (escB true vl).size + 1) (some ⟨1,nm,vl,a + 1⟩):=by
  unfold attrZ
  rw [nameZ_at h3 hn (by decide)]
  dsimp only
  rw [skN_hit h5 (by decide),show (61:Nat) = (61:UInt8).toNat from rfl,expZ_at h5]
  dsimp only
  rw [skN_hit i3 (by decide)]
  unfold valueZ
  rw [if_neg (by omega),if_pos j2]
  unfold valQ
  rw [hu,if_neg (by omega),if_pos (show ch s _ = UInt8.toNat 34 from l2),dr_ext j3,plain_esc]
 show runZ s 2 _ a = _
 simp only [runZ,stepZ_inTag,hz,stepZ_attribute,hz2]
theorem p_text {s vl:ByteArray} {a:Nat} {y:List UInt8} (h:Dr s a = (escB false vl).data.toList ++ y) (hv:(escB false vl).data.toList ≠ []) (hy:y = [] ∨ ∃ y',y = 60 :: y') :
  pieceZ s (some 88) a = .told (some 88) (a + (escB false vl).size) ⟨5,E0,vl,a⟩:=by
 have hno:∀ b ∈ (escB false vl).data.toList,List.contains [60] b = false:=by
  intro b hb
  have:=esc_byte false vl hb
  simp only [List.contains_cons,List.contains_nil,Bool.or_false]
  exact byte_ne this.1
 have hu:upN [60] s a = a + (escB false vl).size:=by
  rcases hy with rfl | ⟨y',rfl⟩
  ·rw [List.append_nil] at h
   rw [upN_none h hno,tl_len]
  ·rw [upN_hit h hno (by decide),tl_len]
 obtain ⟨c,r,e⟩:=List.exists_cons_of_ne_nil hv
 have h':=h
 rw [e] at h'
 obtain ⟨h1,h2,_⟩:=dr_cons h'
 have hc:c.toNat ≠ 60:=(esc_byte false vl (by rw [e];simp)).1
 have hz:contentZ s a = .go (some 113) a none:=by
  unfold contentZ
  rw [if_neg (by omega),if_neg (by omega)]
 have hz2:textZ s a = .go (some 88) (a + (escB false vl).size) (some ⟨5,E0,vl,a⟩):=by
  unfold textZ
  rw [hu,dr_ext h,plain_esc]
 show runZ s 2 _ a = _
 simp only [runZ,stepZ_content,hz,stepZ_text,hz2]
theorem idx_hh:∀ (l r:List UInt8),index l [45,45] = -1 → List.isSuffixOf [45] l = false → index (l ++ 45 :: 45 :: r) [45,45] = l.length
 | [],r,_,_=>by simp [index]
 | b :: l,r,h,hs=>by
  rw [index] at h
  split at h
  ·exact absurd h (by decide)
  ·rename_i hp
   have hl:index l [45,45] = -1:=by
    split at h
    ·rename_i he;exact eq_of_beq he
    ·have:=index_ge l [45,45];omega
   have hs2:l ≠ [] → List.isSuffixOf [45] l = false:=by
    intro hne
    rw [Bool.eq_false_iff] at hs ⊢
    intro hh
    apply hs
    rw [List.isSuffixOf_iff_suffix] at hh ⊢
    exact List.IsSuffix.trans hh (List.suffix_cons b l)
   have hs3:List.isSuffixOf [45] l = false:=by
    cases l with
    | nil=>rfl
    | cons c l=>exact hs2 (by simp)
   rw [List.cons_append,index,idx_hh l r hl hs3]
   have hnp:List.isPrefixOf [45,45] (b :: (l ++ 45 :: 45 :: r)) = false:=by
    cases l with
    | nil =>
     have hb:(45 == b) = false:=by
      rw [beq_eq_false_iff_ne]
      rintro rfl
      exact absurd hs (by decide)
     simp only [List.isPrefixOf,hb,Bool.false_and]
    | cons c l =>
     rw [Bool.not_eq_true] at hp
     simpa [List.isPrefixOf] using hp
   rw [if_neg (by rw [hnp];decide),if_neg (by rw [beq_iff_eq];omega),List.length_cons]
   omega
theorem idx_cut:∀ (l:List UInt8) (k:Nat),index l [45,45] = (k:Int) → index (l.take k) [45,45] = -1 ∧ List.isSuffixOf [45] (l.take k) = false ∧ k ≤ l.length ∧ List.isPrefixOf [45,45] (l.drop k) = true
 | [],k,h=>by
  rw [index] at h
  simp at h
 | b :: l,k,h=>by
  rw [index] at h
  split at h
  ·rename_i hp
   have:k = 0:=by omega
   subst this
   exact ⟨rfl,rfl,by omega,hp⟩
  ·rename_i hp
   split at h
   ·omega
   ·obtain ⟨j,hj⟩:∃ j:Nat,index l [45,45] = (j:Int):=⟨(index l [45,45]).toNat,by
     have:=index_ge l [45,45]
     rename_i hne
     rw [beq_iff_eq] at hne
     omega⟩
    have:k = j + 1:=by omega
    subst this
    obtain ⟨i1,i2,i3,i4⟩:=idx_cut l j hj
    rw [Bool.not_eq_true] at hp
    refine ⟨?_,?_,by rw [List.length_cons];omega,i4⟩
    ·rw [List.take_succ_cons,index,i1]
     rw [if_neg ?_]
     ·rfl
     ·rw [Bool.not_eq_true]
      cases l with
      | nil=>rw [List.take_nil];simp [List.isPrefixOf]
      | cons c l =>
       cases j with
       | zero=>simp [List.isPrefixOf]
       | succ j=>simpa [List.isPrefixOf] using hp
    ·rw [List.take_succ_cons]
     cases e:l.take j with
     | nil =>
      have hj0:l.drop j = l:=by
       cases j with
       | zero=>rfl
       | succ j =>
        cases l with
        | nil=>rfl
        | cons c l=>simp at e
      rw [hj0] at i4
      cases l with
      | nil=>simp at i4
      | cons c l =>
       rw [Bool.eq_false_iff]
       intro hh
       rw [List.isSuffixOf_iff_suffix] at hh
       have hb:b = 45:=by
        have:=hh.subset (List.mem_singleton_self 45)
        simpa using (List.mem_singleton.1 this).symm
       subst hb
       simp [List.isPrefixOf] at hp i4
       exact hp i4.1
     | cons c m =>
      rw [e] at i2
      rw [Bool.eq_false_iff] at i2 ⊢
      intro hh
      apply i2
      rw [List.isSuffixOf_iff_suffix] at hh ⊢
      obtain ⟨p,hp⟩:=hh
      cases p with
      | nil=>simp at hp
      | cons q p=>exact ⟨p,by rw [List.cons_append] at hp;exact (List.cons.inj hp).2⟩
theorem p_comment {s vl:ByteArray} {a:Nat} {y:List UInt8} (h:Dr s a = 60 :: 33 :: 45 :: 45 :: (vl.data.toList ++ 45 :: 45 :: 62 :: y)) (hv:comB vl = true) :
  pieceZ s (some 88) a = .told (some 88) (a + 4 + vl.size + 3) ⟨6,E0,vl,a⟩:=by
 obtain ⟨h1,h2,h3⟩:=dr_at 60 h rfl
 obtain ⟨g1,g2,g3⟩:=dr_at 33 h3 rfl
 obtain ⟨i1,i2,i3⟩:=dr_at 45 g3 rfl
 obtain ⟨j1,j2,j3⟩:=dr_at 45 i3 rfl
 unfold comB at hv
 simp only [Bool.and_eq_true,Bool.not_eq_true'] at hv
 have hi:index vl.data.toList [45,45] = -1:=by
  have:=hv.1
  unfold Lib.contains at this
  have h4:=of_decide_eq_false this
  have:=index_ge vl.data.toList [45,45]
  omega
 have hx:=idx_hh vl.data.toList (62 :: y) hi hv.2
 have hcom:comL s (a + 2 + 1 + 1) = (vl.data.toList,62 :: y,true):=by
  unfold comL Lib.cut
  rw [show s.data.toList.drop (a + 2 + 1 + 1) = vl.data.toList ++ 45 :: 45 :: 62 :: y from j3,show bHH.data.toList = [45,45] from rfl,hx,if_pos (by omega)]
  rw [Int.toNat_natCast,List.take_left]
  congr 2
  rw [← List.drop_drop,List.drop_left];rfl
 have k1:Dr s (a + 1 + 1 + 1 + 1 + vl.size) = 45 :: 45 :: 62 :: y:=by
  have:=dr_app j3
  rwa [tl_len] at this
 have k2:=(dr_cons (dr_cons k1).2.2).2.2
 obtain ⟨l1,l2,_⟩:=dr_at 62 k2 rfl
 have hz:contentZ s a = .go (some 115) a none:=by
  unfold contentZ
  rw [if_neg (by omega),if_pos h2,if_neg (by rw [g2];simp),if_pos ⟨g1,g2⟩]
 have hz2:commentZ s a = .go (some 88) (a + 4 + vl.size + 3) (some ⟨6,E0,vl,a⟩):=by
  unfold commentZ
  rw [show (45:Nat) = (45:UInt8).toNat from rfl,expZ_at g3]
  dsimp only
  rw [show expZ s (a + 2 + 1) (UInt8.toNat 45) = none from expZ_at i3]
  dsimp only
  rw [hcom]
  simp only [if_true]
  rw [tl_len]
  rw [if_neg (by omega),show a + 2 + 1 + 1 + vl.size + 2 = a + 1 + 1 + 1 + 1 + vl.size + 1 + 1 by omega,if_pos l2]
  have e:bs vl.data.toList = vl:=by apply ba_ext;unfold bs;rfl
  rw [e]
 show runZ s 2 _ a = _
 simp only [runZ,stepZ_content,hz,stepZ_comment,hz2]
theorem p_stop {s:ByteArray} {a:Nat} (h:Dr s a = []):pieceZ s (some 88) a = .end_ a:=by
 have hz:contentZ s a = .go none a none:=by
  unfold contentZ
  rw [if_pos (dr_nil h)]
 show runZ s 2 _ a = _
 simp only [runZ,stepZ_content,hz]
def wL (t:IT):List UInt8:=(wrB t.k.toNat t.nm t.vl).data.toList
def Chn:Int → List IT → Prop
 | last,[]=>inT last = false
 | last,t :: ts=>putE last t = 0 ∧ Chn t.k ts
def flatL (ts:List IT):List Nat:=ts.flatMap fun t=>lOf (wrB t.k.toNat t.nm t.vl)
theorem pr_of:∀ (ts:List IT) (n:Nat) (last:Int) (L:List Nat),Chn last ts → (L.length + (flatL ts).length ≤ 1048576 → prZ ts n last L = (L ++ flatL ts,0,0)) ∧ (1048576 < L.length + (flatL ts).length → prZ ts n last L = ([],45,n + ts.length))
 | [],n,last,L,h=>by
  have h':inT last = false:=h
  rw [prZ,if_neg (by rw [h'];decide)]
  have e:flatL [] = []:=rfl
  rw [e]
  simp only [List.length_nil,Nat.add_zero,List.append_nil]
  exact ⟨fun hh=>by rw [if_neg (by omega)],fun hh=>by rw [if_pos hh]⟩
 | t :: ts,n,last,L,h=>by
  rw [prZ,if_pos h.1]
  have ih:=pr_of ts (n + 1) t.k (putL L t) h.2
  have e:flatL (t :: ts) = lOf (wrB t.k.toNat t.nm t.vl) ++ flatL ts:=by unfold flatL;rw [List.flatMap_cons]
  rw [e,List.length_append,List.length_cons]
  by_cases hle:L.length ≤ 1048576
  ·have e2:putL L t = L ++ lOf (wrB t.k.toNat t.nm t.vl):=by unfold putL;rw [if_pos hle]
   rw [e2,List.length_append] at ih
   rw [e2]
   exact ⟨fun hh=>by rw [ih.1 (by omega),List.append_assoc],fun hh=>by rw [ih.2 (by omega),show n + 1 + ts.length = n + (ts.length + 1) by omega]⟩
  ·have e2:putL L t = L:=by unfold putL;rw [if_neg hle]
   rw [e2] at ih ⊢
   exact ⟨fun hh=>by omega,fun hh=>by rw [ih.2 (by omega),show n + 1 + ts.length = n + (ts.length + 1) by omega]⟩
theorem size_zero {v:ByteArray} (h:v.size = 0):v = E0:=by
 apply ba_ext
 have:v.data.toList.length = 0:=by rw [tl_len];exact h
 rw [List.length_eq_zero_iff.1 this]
theorem size_E0:E0.size = 0:=rfl
structure Fits (last:Int) (k:Nat) (nm vl:ByteArray):Prop where
 lt:k < 8
 n0:shN k = false → nm = E0
 v0:shV k = false → vl = E0
 tag:shT k = inT last
 d:k = 7 → last = -1
 t5:k = 5 → 0 < vl.size ∧ last ≠ 5
 nm:shN k = true → xmlNameB nm = true
 vx:VX (lOf vl)
 c6:k = 6 → comB vl = true
 c7:k = 7 → dclB vl = true
theorem fits_of {last:Int} {t:IT} (h:putE last t = 0):∃ k:Nat,t.k = (k:Int) ∧ Fits last k t.nm t.vl:=by
 unfold putE at h
 split at h
 ·exact absurd h (by decide)
 ·rename_i hk
  obtain ⟨k,hk2⟩:∃ k:Nat,t.k = (k:Int):=⟨t.k.toNat,by omega⟩
  refine ⟨k,hk2,?_⟩
  rw [hk2,Int.toNat_natCast] at h
  rw [hk2] at hk
  split at h
  ·rename_i hc
   unfold canF at hc
   split at hc
   ·exact absurd hc (by decide)
   ·rename_i hg
    simp only [Bool.or_eq_true,Bool.and_eq_true,Bool.not_eq_true',decide_eq_false_iff_not,bne_iff_ne,not_or,not_and,Bool.not_eq_false,Decidable.not_not] at hg
    obtain ⟨g1,g2,g3⟩:=hg
    unfold chkE at h
    split at h
    ·exact absurd h (by decide)
    ·rename_i hn
     split at h
     ·rename_i hv
      split at h
      ·exact absurd h (by decide)
      ·rename_i h6
       split at h
       ·exact absurd h (by decide)
       ·rename_i h7
        refine ⟨by omega,fun hs=>?_,fun hs=>?_,g3,fun h7'=>?_,fun h5'=>?_,fun hs=>?_,(chars_iff _).1 hv,fun h6'=>?_,fun h7'=>?_⟩
        ·by_cases hz:t.nm.size = 0
         ·exact size_zero hz
         ·have:=g1 hz;rw [hs] at this;exact absurd this (by decide)
        ·by_cases hz:t.vl.size = 0
         ·exact size_zero hz
         ·have:=g2 hz;rw [hs] at this;exact absurd this (by decide)
        ·subst h7'
         rw [if_pos rfl] at hc
         exact of_decide_eq_true hc
        ·subst h5'
         rw [if_neg (by decide),if_pos rfl] at hc
         simp only [Bool.and_eq_true,Bool.not_eq_true',decide_eq_false_iff_not] at hc
         exact ⟨by omega,hc.2⟩
        ·by_cases hx:xmlNameB t.nm = true
         ·exact hx
         ·exact absurd ⟨hs,by simpa using hx⟩ hn
        ·by_cases hx:comB t.vl = true
         ·exact hx
         ·exact absurd ⟨h6',by simpa using hx⟩ h6
        ·by_cases hx:dclB t.vl = true
         ·exact hx
         ·exact absurd ⟨h7',by simpa using hx⟩ h7
     ·rename_i hv
      exact absurd h hv
  ·exact absurd h (by decide)
theorem fits_put {last:Int} {t:IT} {k:Nat} (hk:t.k = (k:Int)) (f:Fits last k t.nm t.vl):putE last t = 0:=by
 have h8:=f.lt
 unfold putE
 rw [if_neg (by omega),hk,Int.toNat_natCast]
 have hc:canF last k t.nm t.vl = true:=by
  unfold canF
  rw [if_neg]
  ·by_cases h7:k = 7
   ·rw [if_pos h7,decide_eq_true (f.d h7)]
   ·rw [if_neg h7]
    by_cases h5:k = 5
    ·have:=f.t5 h5
     rw [if_pos h5,decide_eq_false (by omega),decide_eq_false this.2]
     rfl
    ·rw [if_neg h5]
  ·simp only [Bool.or_eq_true,Bool.and_eq_true,Bool.not_eq_true',decide_eq_false_iff_not,bne_iff_ne,not_or,not_and,Bool.not_eq_false,Decidable.not_not]
   refine ⟨fun hz=>?_,fun hz=>?_,f.tag⟩
   ·cases hs:shN k
    ·exact absurd (by rw [f.n0 hs];rfl) hz
    ·rfl
   ·cases hs:shV k
    ·exact absurd (by rw [f.v0 hs];rfl) hz
    ·rfl
 rw [if_pos hc]
 unfold chkE
 rw [if_neg (fun hh=>by rw [f.nm hh.1] at hh;exact absurd hh.2 (by decide)),if_pos ((chars_iff _).2 f.vx),if_neg (fun hh=>by rw [f.c6 hh.1] at hh;exact absurd hh.2 (by decide)),if_neg (fun hh=>by rw [f.c7 hh.1] at hh;exact absurd hh.2 (by decide))]
theorem wl0 (nm vl:ByteArray):(wrB 0 nm vl).data.toList = 60 :: nm.data.toList:=by simp [wrB,ByteArray.data_append]
theorem wl1 (nm vl:ByteArray):(wrB 1 nm vl).data.toList = 32 :: (nm.data.toList ++ 61 :: 34 :: ((escB true vl).data.toList ++ [34])):=by simp [wrB,ByteArray.data_append]
theorem wl2 (nm vl:ByteArray):(wrB 2 nm vl).data.toList = [62]:=by simp [wrB]
theorem wl3 (nm vl:ByteArray):(wrB 3 nm vl).data.toList = [47,62]:=by simp [wrB]
theorem wl4 (nm vl:ByteArray):(wrB 4 nm vl).data.toList = 60 :: 47 :: (nm.data.toList ++ [62]):=by simp [wrB,ByteArray.data_append]
theorem wl5 (nm vl:ByteArray):(wrB 5 nm vl).data.toList = (escB false vl).data.toList:=by simp [wrB]
theorem wl6 (nm vl:ByteArray):(wrB 6 nm vl).data.toList = 60 :: 33 :: 45 :: 45 :: (vl.data.toList ++ [45,45,62]):=by simp [wrB,ByteArray.data_append]
theorem wl7 (nm vl:ByteArray):(wrB 7 nm vl).data.toList = 60 :: 63 :: 120 :: 109 :: 108 :: (vl.data.toList ++ [63,62]):=by simp [wrB,ByteArray.data_append]
theorem esc_ne {attr:Bool} {vl:ByteArray} (h:0 < vl.size):(escB attr vl).data.toList ≠ []:=by
 intro e
 have h1:(escB attr vl).size = 0:=by rw [← tl_len,e];rfl
 unfold escB at h1
 rw [sOf_size] at h1
 have h2:lOf vl ≠ []:=fun hh=>by rw [← lOf_length,hh] at h;exact absurd h (by decide)
 obtain ⟨c,r,e2⟩:=List.exists_cons_of_ne_nil h2
 rw [e2] at h1
 unfold escL at h1
 rw [List.flatMap_cons,List.length_append] at h1
 have:=(escC_len attr c).2
 omega
def stN (last:Int):Nat:=if inT last = true then 153 else 88
theorem ok_st {s:ByteArray} {a:Nat} (last:Int) (hs:s.size ≤ 1048576) (ha:a ≤ s.size):okO s a (some (stN last)):=by
 unfold stN
 show stOk s _ a
 unfold stOk
 right
 refine ⟨hs,?_⟩
 split
 ·simp [ha]
 ·simp [ha]
theorem piece_back {s:ByteArray} {a:Nat} {last:Int} {k:Nat} {nm vl:ByteArray} {y:List UInt8} (f:Fits last k nm vl) (h7:k ≠ 7) (h:Dr s a = (wrB k nm vl).data.toList ++ y)
  (hy0:k = 0 → ∃ c y',y = c :: y' ∧ NEb.data.toList.contains c = true) (hy5:k = 5 → y = [] ∨ ∃ y',y = 60 :: y') :
  ∃ p,pieceZ s (some (stN last)) a = .told (some (stN (k:Int))) (a + (wrB k nm vl).data.toList.length) ⟨k,nm,vl,p⟩ ∧ a ≤ p ∧ p < a + (wrB k nm vl).data.toList.length:=by
 have ht:=f.tag
 have hk:=f.lt
 have cases:k = 0 ∨ k = 1 ∨ k = 2 ∨ k = 3 ∨ k = 4 ∨ k = 5 ∨ k = 6:=by omega
 unfold stN
 rcases cases with rfl | rfl | rfl | rfl | rfl | rfl | rfl
 ·rw [← ht,if_neg (show ¬ shT 0 = true by decide),if_pos (show inT ((0:Nat):Int) = true by decide)]
  obtain ⟨c,y',rfl,hc⟩:=hy0 rfl
  rw [wl0] at h ⊢
  rw [f.v0 (by decide),p_open h (f.nm (by decide)) hc]
  refine ⟨a,?_,Nat.le_refl _,by simp⟩
  rw [List.length_cons,tl_len,show a + 1 + nm.size = a + (nm.size + 1) by omega]
 ·rw [← ht,if_pos (show shT 1 = true by decide),if_pos (show inT ((1:Nat):Int) = true by decide)]
  rw [wl1] at h ⊢
  have h':Dr s a = 32 :: (nm.data.toList ++ 61 :: 34 :: ((escB true vl).data.toList ++ 34 :: y)):=by rw [h];simp
  rw [p_attr h' (f.nm (by decide))]
  refine ⟨a + 1,?_,by omega,by simp;omega⟩
  congr 1
  simp only [List.length_cons,List.length_append,tl_len,List.length_nil]
  omega
 ·rw [← ht,if_pos (show shT 2 = true by decide),if_neg (show ¬ inT ((2:Nat):Int) = true by decide)]
  rw [wl2] at h ⊢
  rw [f.n0 (by decide),f.v0 (by decide),p_end h]
  exact ⟨a,rfl,Nat.le_refl _,by simp⟩
 ·rw [← ht,if_pos (show shT 3 = true by decide),if_neg (show ¬ inT ((3:Nat):Int) = true by decide)]
  rw [wl3] at h ⊢
  rw [f.n0 (by decide),f.v0 (by decide),p_empty h]
  exact ⟨a,rfl,Nat.le_refl _,by simp⟩
 ·rw [← ht,if_neg (show ¬ shT 4 = true by decide),if_neg (show ¬ inT ((4:Nat):Int) = true by decide)]
  rw [wl4] at h ⊢
  have h':Dr s a = 60 :: 47 :: (nm.data.toList ++ 62 :: y):=by rw [h];simp
  rw [f.v0 (by decide),p_close h' (f.nm (by decide))]
  refine ⟨a,?_,Nat.le_refl _,by simp⟩
  congr 1
  simp only [List.length_cons,List.length_append,tl_len,List.length_nil]
  omega
 ·rw [← ht,if_neg (show ¬ shT 5 = true by decide),if_neg (show ¬ inT ((5:Nat):Int) = true by decide)]
  rw [wl5] at h ⊢
  have hne:=esc_ne (attr:=false) (f.t5 rfl).1
  rw [f.n0 (by decide),p_text h hne (hy5 rfl)]
  refine ⟨a,by rw [tl_len],Nat.le_refl _,?_⟩
  have:=List.length_pos_iff.2 hne
  omega
 ·rw [← ht,if_neg (show ¬ shT 6 = true by decide),if_neg (show ¬ inT ((6:Nat):Int) = true by decide)]
  rw [wl6] at h ⊢
  have h':Dr s a = 60 :: 33 :: 45 :: 45 :: (vl.data.toList ++ 45 :: 45 :: 62 :: y):=by rw [h];simp
  rw [f.n0 (by decide),p_comment h' (f.c6 rfl)]
  refine ⟨a,?_,Nat.le_refl _,by simp⟩
  congr 1
  simp only [List.length_cons,List.length_append,tl_len,List.length_nil]
  omega
def Sm:List Tok → List IT → Prop
 | [],[]=>True
 | u :: us,t :: ts=>(u.k:Int) = t.k ∧ u.nm = t.nm ∧ u.vl = t.vl ∧ Sm us ts
 | _,_=>False
def fl (ts:List IT):List UInt8:=ts.flatMap wL
theorem fl_cons (t:IT) (ts:List IT):fl (t :: ts) = wL t ++ fl ts:=by unfold fl;rw [List.flatMap_cons]
theorem behind_open {ts:List IT} (h:Chn 0 ts):∃ c y',fl ts = c :: y' ∧ NEb.data.toList.contains c = true:=by
 cases ts with
 | nil=>exact absurd (show inT 0 = false from h) (by decide)
 | cons t ts =>
  obtain ⟨k,hk,f⟩:=fits_of h.1
  have ht:shT k = true:=f.tag
  have hk3:k = 1 ∨ k = 2 ∨ k = 3:=of_decide_eq_true ht
  rw [fl_cons]
  unfold wL
  rw [hk,Int.toNat_natCast]
  rcases hk3 with rfl | rfl | rfl
  ·rw [wl1];exact ⟨_,_,List.cons_append,by decide⟩
  ·rw [wl2];exact ⟨_,_,List.cons_append,by decide⟩
  ·rw [wl3];exact ⟨_,_,List.cons_append,by decide⟩
theorem behind_text {ts:List IT} (h:Chn 5 ts):fl ts = [] ∨ ∃ y',fl ts = 60 :: y':=by
 cases ts with
 | nil=>exact Or.inl rfl
 | cons t ts =>
  right
  obtain ⟨k,hk,f⟩:=fits_of h.1
  have ht:shT k = false:=f.tag
  have hk3:¬ (k = 1 ∨ k = 2 ∨ k = 3):=of_decide_eq_false ht
  have h5:k ≠ 5:=fun hh=>(f.t5 hh).2 rfl
  have h7:k ≠ 7:=fun hh=>absurd (f.d hh) (by decide)
  have h8:=f.lt
  have cs:k = 0 ∨ k = 4 ∨ k = 6:=by omega
  rw [fl_cons]
  unfold wL
  rw [hk,Int.toNat_natCast]
  rcases cs with rfl | rfl | rfl
  ·rw [wl0];exact ⟨_,List.cons_append⟩
  ·rw [wl4];exact ⟨_,List.cons_append⟩
  ·rw [wl6];exact ⟨_,List.cons_append⟩
abbrev li (s:ByteArray):List UInt8:=s.data.toList
def Bk (l:List UInt8):Prop:=∀ b ∈ l,BLs.contains b = true
theorem drop_blank {b l:List UInt8} {c:UInt8} (hb:Bk b) (hc:BLs.contains c = false):(b ++ c :: l).dropWhile (BLs.contains ·) = c :: l:=by
 induction b with
 | nil=>rw [List.nil_append,List.dropWhile_cons_of_neg (by rw [hc];decide)]
 | cons d b ih=>rw [List.cons_append,List.dropWhile_cons_of_pos (hb d (by simp)),ih (fun x hx=>hb x (by simp [hx]))]
theorem tl_list (s:ByteArray):li (tlB s) = (li s).dropWhile (BLs.contains ·):=by
 unfold tlB Lib.trimLeftS li
 rw [bs_list]
theorem tl_of {s:ByteArray} {b l:List UInt8} {c:UInt8} (h:li s = b ++ c :: l) (hb:Bk b) (hc:BLs.contains c = false):li (tlB s) = c :: l:=by
 rw [tl_list,h,drop_blank hb hc]
theorem tl_split (s:ByteArray):∃ b,Bk b ∧ li s = b ++ li (tlB s):=by
 refine ⟨(li s).takeWhile (BLs.contains ·),fun x hx=>?_,by rw [tl_list,List.takeWhile_append_dropWhile]⟩
 exact (List.all_eq_true.1 List.all_takeWhile) x hx
theorem cp_iff (s p r:ByteArray):cpB s p = (r,true) ↔ li s = li p ++ li r:=by
 unfold cpB
 constructor
 ·intro h
  split at h
  ·rename_i hp
   injection h with h1
   obtain ⟨t,ht⟩:=List.isPrefixOf_iff_prefix.1 hp
   have e:li r = t:=by
    unfold li
    rw [← h1,list_ext,← ht,← tl_len p,List.drop_left,List.take_of_length_le]
    have:=congrArg List.length ht
    rw [List.length_append,tl_len] at this
    rw [tl_len] at this ⊢
    omega
   rw [e];exact ht.symm
  ·cases h
 ·intro h
  rw [if_pos (show Lib.hasPrefix s.data.toList p.data.toList = true from List.isPrefixOf_iff_prefix.2 ⟨li r,h.symm⟩)]
  congr 1
  apply ba_ext
  unfold li at h
  have hl:=congrArg List.length h
  rw [List.length_append,tl_len,tl_len,tl_len] at hl
  rw [list_ext,h,← tl_len p,List.drop_left,List.take_of_length_le (by rw [tl_len,tl_len];omega)]
theorem cp_no {s p:ByteArray} {c:UInt8} {l m:List UInt8} {d:UInt8} (h:li s = c :: l) (hp:li p = d :: m) (hn:c ≠ d):cpB s p = (s,false):=by
 unfold cpB
 rw [if_neg]
 rw [Bool.not_eq_true]
 show List.isPrefixOf (li p) (li s) = false
 rw [h,hp]
 simp only [List.isPrefixOf]
 rw [show (d == c) = false from beq_eq_false_iff_ne.2 (Ne.symm hn)]
 rfl
theorem qt_iff (s v r:ByteArray):qtB s = (v,r,true) ↔ ∃ q:UInt8,(q = 34 ∨ q = 39) ∧ li s = q :: (li v ++ q :: li r) ∧ ∀ b ∈ li v,b ≠ q:=by
 unfold qtB
 constructor
 ·intro h
  split at h
  ·rename_i hq
   obtain ⟨c,l,e⟩:∃ c l,li s = c :: l:=by
    cases e:li s with
    | nil=>rw [← tl_len] at hq;unfold li at e;rw [e] at hq;exact absurd hq.1 (by decide)
    | cons c l=>exact ⟨c,l,rfl⟩
   have hd:=dr_cons (s:=s) (a:=0) (by unfold Dr;rw [List.drop_zero];exact e)
   have el:li (s.extract 1 s.size) = l:=by
    unfold li
    rw [list_from]
    have:=hd.2.2
    rwa [Nat.zero_add] at this
   have hc:c = 34 ∨ c = 39:=by
    rw [hd.2.1] at hq
    rcases hq.2 with h1 | h1
    ·left;exact UInt8.toNat_inj.1 h1
    ·right;exact UInt8.toNat_inj.1 h1
   rw [hd.2.1] at h
   generalize hu:s.extract 1 s.size = u at h el
   unfold qtR at h
   injection h with h1 h2
   injection h2 with h2 h3
   have hk:=of_decide_eq_true h3
   rw [if_pos hk] at h2
   have hat:=fst_at u c.toNat hk
   have hbe:=fun j hj=>fst_before u c.toNat j hj
   generalize fstN u c.toNat = k at h1 h2 hk hat hbe
   have ed:Dr u k = c :: Dr u (k + 1):=by
    cases e2:Dr u k with
    | nil=>have:=dr_nil e2;omega
    | cons d m =>
     have hd2:=dr_cons e2
     rw [hd2.2.2]
     have:d = c:=UInt8.toNat_inj.1 (hd2.2.1.symm.trans hat)
     rw [this]
   have ev:li v = l.take k:=by
    unfold li at el ⊢
    rw [← h1,list_ext,el,List.drop_zero,Nat.sub_zero]
   have er:li r = Dr u (k + 1):=by
    unfold li
    rw [← h2,list_from]
   refine ⟨c,hc,?_,fun b hb=>?_⟩
   ·rw [e,ev,er,← ed]
    unfold Dr
    rw [show u.data.toList = l from el,List.take_append_drop]
   ·rw [ev] at hb
    obtain ⟨j,hj,rfl⟩:=List.mem_iff_getElem.1 hb
    rw [List.length_take] at hj
    intro hh
    apply hbe j (by omega)
    unfold ch
    rw [show u.data.toList = l from el]
    rw [List.getElem_take] at hh
    simp only [List.getD]
    rw [List.getElem?_eq_getElem (by omega),Option.getD_some,hh]
  ·cases h
 ·rintro ⟨q,hq,e,hv⟩
  have hd:=dr_cons (s:=s) (a:=0) (by unfold Dr;rw [List.drop_zero];exact e)
  have el:li (s.extract 1 s.size) = li v ++ q :: li r:=by
   unfold li
   rw [list_from]
   have:=hd.2.2
   rwa [Nat.zero_add] at this
  have hq':q.toNat = 34 ∨ q.toNat = 39:=by
   rcases hq with rfl | rfl
   ·exact Or.inl rfl
   ·exact Or.inr rfl
  rw [if_pos ⟨hd.1,by rw [hd.2.1];exact hq'⟩,hd.2.1]
  generalize s.extract 1 s.size = u at el
  have hf:fstN u q.toNat = v.size:=by
   unfold fstN lOf
   rw [show u.data.toList = li v ++ q :: li r from el,List.findIdx_map,← tl_len v]
   refine find_hit (fun b hb=>?_) (by simp)
   show (b.toNat == q.toNat) = false
   rw [beq_eq_false_iff_ne]
   exact fun hh=>hv b hb (UInt8.toNat_inj.1 hh)
  have hl:=congrArg List.length el
  rw [tl_len,List.length_append,List.length_cons,tl_len,tl_len] at hl
  unfold qtR
  rw [hf,if_pos (by omega),decide_eq_true (by omega)]
  unfold li at el
  congr 1
  ·apply ba_ext
   rw [list_ext,el,List.drop_zero,Nat.sub_zero,← tl_len v,List.take_left]
  ·congr 1
   apply ba_ext
   rw [list_from,el,← List.drop_drop,← tl_len v,List.drop_left];rfl
def Gm (ok:ByteArray → Bool) (nm:ByteArray) (x:List UInt8):Prop:=∃ (b1 b2 b3:List UInt8) (q:UInt8) (v:ByteArray),x = b1 ++ (li nm ++ (b2 ++ 61 :: (b3 ++ q :: (li v ++ [q])))) ∧ b1 ≠ [] ∧ Bk b1 ∧ Bk b2 ∧ Bk b3 ∧ (q = 34 ∨ q = 39) ∧ (∀ b ∈ li v,b ≠ q) ∧ ok v = true
theorem quote_bl {q:UInt8} (h:q = 34 ∨ q = 39):BLs.contains q = false:=by rcases h with rfl | rfl <;> decide
theorem set_of {ok:ByteArray → Bool} {nm s r:ByteArray} {x:List UInt8} (hx:Gm ok nm x) (h:li s = x ++ li r) {n0:UInt8} {n1:List UInt8} (hn:li nm = n0 :: n1) (hb:BLs.contains n0 = false):setB ok nm s = (r,true):=by
 obtain ⟨b1,b2,b3,q,v,rfl,h1,hb1,hb2,hb3,hq,hv,hok⟩:=hx
 have e0:li s = b1 ++ n0 :: (n1 ++ (b2 ++ 61 :: (b3 ++ q :: (li v ++ q :: li r)))):=by rw [h,hn];simp
 have t1:li (tlB s) = n0 :: (n1 ++ (b2 ++ 61 :: (b3 ++ q :: (li v ++ q :: li r)))):=tl_of e0 hb1 hb
 have c1:cpB (tlB s) nm = (bs (b2 ++ 61 :: (b3 ++ q :: (li v ++ q :: li r))),true):=(cp_iff _ _ _).2 (by rw [t1,show li (bs _) = _ from bs_list _,hn];simp)
 have t2:li (tlB (bs (b2 ++ 61 :: (b3 ++ q :: (li v ++ q :: li r))))) = 61 :: (b3 ++ q :: (li v ++ q :: li r)):=tl_of (bs_list _) hb2 (by decide)
 have c2:cpB (tlB (bs (b2 ++ 61 :: (b3 ++ q :: (li v ++ q :: li r))))) ⟨#[61]⟩ = (bs (b3 ++ q :: (li v ++ q :: li r)),true):=(cp_iff _ _ _).2 (by rw [t2,show li (bs _) = _ from bs_list _];rfl)
 have t3:li (tlB (bs (b3 ++ q :: (li v ++ q :: li r)))) = q :: (li v ++ q :: li r):=tl_of (bs_list _) hb3 (quote_bl hq)
 have q3:=(qt_iff _ v r).2 ⟨q,hq,t3,hv⟩
 have hz:decide ((tlB s).size < s.size) = true:=by
  have l1:=congrArg List.length t1
  have l2:=congrArg List.length e0
  rw [tl_len] at l1 l2
  rw [List.length_append] at l2
  have:=List.length_pos_iff.2 h1
  exact decide_eq_true (by omega)
 unfold setB
 rw [c1,c2,q3,hz,hok]
 rfl
theorem set_to {ok:ByteArray → Bool} {nm s r:ByteArray} (h:setB ok nm s = (r,true)):∃ x,Gm ok nm x ∧ li s = x ++ li r:=by
 unfold setB at h
 split at h
 ·rename_i hc
  simp only [Bool.and_eq_true,decide_eq_true_eq] at hc
  obtain ⟨hz,hc1,hc2,hq,hok⟩:=hc
  injection h with h1
  obtain ⟨b1,hb1,e1⟩:=tl_split s
  have p1:=(cp_iff (tlB s) nm (cpB (tlB s) nm).1).1 (by rw [← hc1])
  generalize (cpB (tlB s) nm).1 = u1 at hc2 hq hok h1 p1
  obtain ⟨b2,hb2,e2⟩:=tl_split u1
  have p2:=(cp_iff (tlB u1) ⟨#[61]⟩ (cpB (tlB u1) ⟨#[61]⟩).1).1 (by rw [← hc2])
  generalize (cpB (tlB u1) ⟨#[61]⟩).1 = u2 at hq hok h1 p2
  obtain ⟨b3,hb3,e3⟩:=tl_split u2
  obtain ⟨q,hq2,e4,hv⟩:=(qt_iff (tlB u2) (qtB (tlB u2)).1 (qtB (tlB u2)).2.1).1 (by rw [← hq])
  rw [h1] at e4
  refine ⟨_,⟨b1,b2,b3,q,_,rfl,?_,hb1,hb2,hb3,hq2,hv,hok⟩,?_⟩
  ·rintro rfl
   have:=congrArg List.length e1
   rw [List.nil_append,tl_len,tl_len] at this
   omega
  ·rw [e1,p1,e2,p2,e3,e4]
   simp
   rfl
 ·cases h
theorem set_no {ok:ByteArray → Bool} {nm s:ByteArray} {b l:List UInt8} {c:UInt8} (h:li s = b ++ c :: l) (hb:Bk b) (hc:BLs.contains c = false) {n0:UInt8} {n1:List UInt8} (hn:li nm = n0 :: n1) (hne:c ≠ n0):setB ok nm s = (s,false):=by
 unfold setB
 rw [cp_no (tl_of h hb hc) hn hne]
 simp
theorem set_cases (ok:ByteArray → Bool) (nm s:ByteArray):setB ok nm s = ((setB ok nm s).1,true) ∨ setB ok nm s = (s,false):=by
 unfold setB
 split
 ·exact Or.inl rfl
 ·exact Or.inr rfl
abbrev bVER:ByteArray:=⟨#[118,101,114,115,105,111,110]⟩
abbrev bENC:ByteArray:=⟨#[101,110,99,111,100,105,110,103]⟩
abbrev bSTA:ByteArray:=⟨#[115,116,97,110,100,97,108,111,110,101]⟩
def Dc (l r:List UInt8):Prop:=∃ x1 x2 x3 b,l = li bXML ++ (x1 ++ (x2 ++ (x3 ++ (b ++ 63 :: 62 :: r)))) ∧ Gm verB bVER x1 ∧ (x2 = [] ∨ Gm encB bENC x2) ∧ (x3 = [] ∨ Gm staB bSTA x3) ∧ Bk b
theorem decl_to {s:ByteArray} (h:¬ declN s = 0):∃ r,Dc (li s) r ∧ declN s + r.length = s.size:=by
 unfold declN at h ⊢
 split at h
 ·rename_i hc
  rw [if_pos hc]
  simp only [Bool.and_eq_true] at hc
  obtain ⟨h0,h1,h4⟩:=hc
  have p0:=(cp_iff s bXML (cpB s bXML).1).1 (by rw [← h0])
  obtain ⟨x1,g1,e1⟩:=set_to (r:=(dr1 s).1) (show dr1 s = _ by rw [← h1])
  have e2:∃ x2,(x2 = [] ∨ Gm encB bENC x2) ∧ li (dr1 s).1 = x2 ++ li (dr2 s).1:=by
   rcases set_cases encB bENC (dr1 s).1 with hh | hh
   ·obtain ⟨x2,g2,e2⟩:=set_to hh
    exact ⟨x2,Or.inr g2,e2⟩
   ·exact ⟨[],Or.inl rfl,by rw [show dr2 s = _ from hh];rfl⟩
  obtain ⟨x2,g2,e2⟩:=e2
  have e3:∃ x3,(x3 = [] ∨ Gm staB bSTA x3) ∧ li (dr2 s).1 = x3 ++ li (dr3 s).1:=by
   rcases set_cases staB bSTA (dr2 s).1 with hh | hh
   ·obtain ⟨x3,g3,e3⟩:=set_to hh
    exact ⟨x3,Or.inr g3,e3⟩
   ·exact ⟨[],Or.inl rfl,by rw [show dr3 s = _ from hh];rfl⟩
  obtain ⟨x3,g3,e3⟩:=e3
  obtain ⟨b,hb,e4⟩:=tl_split (dr3 s).1
  have p4:=(cp_iff (tlB (dr3 s).1) bSHUT (dr4 s).1).1 (show dr4 s = _ by rw [← h4])
  refine ⟨li (dr4 s).1,⟨x1,x2,x3,b,?_,g1,g2,g3,hb⟩,?_⟩
  ·rw [p0,e1,e2,e3,e4,p4]
   rfl
  ·rw [tl_len]
   have l4:=congrArg List.length p0
   rw [e1,e2,e3,e4,p4] at l4
   simp only [List.length_append,tl_len] at l4
   omega
 ·exact absurd rfl h
theorem decl_of {s:ByteArray} {r:List UInt8} (h:Dc (li s) r):declN s + r.length = s.size ∧ ¬ declN s = 0:=by
 obtain ⟨x1,x2,x3,b,e,g1,g2,g3,hb⟩:=h
 have p0:cpB s bXML = (bs (x1 ++ (x2 ++ (x3 ++ (b ++ 63 :: 62 :: r)))),true):=(cp_iff _ _ _).2 (by rw [e,show li (bs _) = _ from bs_list _])
 have p1:dr1 s = (bs (x2 ++ (x3 ++ (b ++ 63 :: 62 :: r))),true):=by
  unfold dr1
  rw [p0]
  exact set_of g1 (by rw [show li (bs _) = _ from bs_list _,show li (bs _) = _ from bs_list _]) (n0:=118) rfl (by decide)
 have p3':∀ u:ByteArray,li u = x3 ++ (b ++ 63 :: 62 :: r) → (setB staB bSTA u).1 = bs (b ++ 63 :: 62 :: r):=by
  intro u hu
  rcases g3 with rfl | g3
  ·rw [List.nil_append] at hu
   rw [set_no hu hb (by decide) (n0:=115) rfl (by decide)]
   apply ba_ext
   rw [bs_list];exact hu
  ·rw [set_of (r:=bs (b ++ 63 :: 62 :: r)) g3 (by rw [hu,show li (bs _) = _ from bs_list _]) (n0:=115) rfl (by decide)]
 have first:∃ b' c l',x3 ++ (b ++ 63 :: 62 :: r) = b' ++ c :: l' ∧ Bk b' ∧ BLs.contains c = false ∧ c ≠ 101:=by
  rcases g3 with rfl | ⟨b1,b2,b3,q,v,rfl,_,hb1,_⟩
  ·exact ⟨b,63,62 :: r,rfl,hb,by decide,by decide⟩
  ·exact ⟨b1,115,_,by rw [List.append_assoc,List.append_assoc];rfl,hb1,by decide,by decide⟩
 have p2:(dr2 s).1 = bs (x3 ++ (b ++ 63 :: 62 :: r)):=by
  unfold dr2
  rw [p1]
  dsimp only
  rcases g2 with rfl | g2
  ·rw [List.nil_append]
   obtain ⟨b',c,l',e',hb',hc',hne⟩:=first
   rw [set_no (s:=bs (x3 ++ (b ++ 63 :: 62 :: r))) ((bs_list _).trans e') hb' hc' (n0:=101) rfl hne]
  ·rw [set_of (r:=bs (x3 ++ (b ++ 63 :: 62 :: r))) g2 (by rw [show li (bs _) = _ from bs_list _,show li (bs _) = _ from bs_list _]) (n0:=101) rfl (by decide)]
 have p3:(dr3 s).1 = bs (b ++ 63 :: 62 :: r):=by
  unfold dr3
  rw [p2]
  exact p3' _ (bs_list _)
 have p4:dr4 s = (bs r,true):=by
  unfold dr4
  rw [p3]
  exact (cp_iff _ _ _).2 (by rw [tl_of (bs_list _) hb (by decide),show li (bs _) = _ from bs_list _];rfl)
 have hd:declN s = s.size - (bs r).size:=by
  unfold declN
  rw [p0,p1,p4]
  rfl
 have l1:=congrArg List.length e
 rw [tl_len] at l1
 simp only [List.length_append,List.length_cons] at l1
 have l2:(bs r).size = r.length:=by rw [← tl_len,bs_list]
 rw [hd,l2]
 omega
theorem lof_esc (attr:Bool) (vl:ByteArray):lOf (escB attr vl) = escL attr (lOf vl):=by
 unfold escB
 exact lOf_sOf _ fun b hb=>(esc_clean attr (lOf vl) (lOf_lt vl) b hb).1
theorem lof_li (s:ByteArray):lOf s = (li s).map UInt8.toNat:=rfl
theorem wr_vx {last:Int} {k:Nat} {nm vl:ByteArray} (f:Fits last k nm vl):VX (lOf (wrB k nm vl)):=by
 have hk:=f.lt
 have hv:=f.vx
 have cases:k = 0 ∨ k = 1 ∨ k = 2 ∨ k = 3 ∨ k = 4 ∨ k = 5 ∨ k = 6 ∨ k = 7:=by omega
 have one:∀ l:List Nat,(∀ c ∈ l,c < 128 ∧ xmlB (c:Int) = true) → VX l:=fun l h=>vx_all h
 rcases cases with rfl | rfl | rfl | rfl | rfl | rfl | rfl | rfl
 ·have hn:=name_xml (f.nm (by decide))
  show VX (lOf (⟨#[60]⟩ ++ nm))
  rw [lOf_append]
  exact vx_app (one [60] (by decide)) hn
 ·have hn:=name_xml (f.nm (by decide))
  show VX (lOf (⟨#[32]⟩ ++ nm ++ ⟨#[61,34]⟩ ++ escB true vl ++ ⟨#[34]⟩))
  rw [lOf_append,lOf_append,lOf_append,lOf_append,lof_esc]
  exact vx_app (vx_app (vx_app (vx_app (one [32] (by decide)) hn) (one [61,34] (by decide))) (esc_vx hv)) (one [34] (by decide))
 ·exact one [62] (by decide)
 ·exact one [47,62] (by decide)
 ·have hn:=name_xml (f.nm (by decide))
  show VX (lOf (⟨#[60,47]⟩ ++ nm ++ ⟨#[62]⟩))
  rw [lOf_append,lOf_append]
  exact vx_app (vx_app (one [60,47] (by decide)) hn) (one [62] (by decide))
 ·show VX (lOf (escB false vl))
  rw [lof_esc]
  exact esc_vx hv
 ·show VX (lOf (⟨#[60,33,45,45]⟩ ++ vl ++ ⟨#[45,45,62]⟩))
  rw [lOf_append,lOf_append]
  exact vx_app (vx_app (one [60,33,45,45] (by decide)) hv) (one [45,45,62] (by decide))
 ·show VX (lOf (bXML ++ vl ++ bSHUT))
  rw [lOf_append,lOf_append]
  exact vx_app (vx_app (one [60,63,120,109,108] (by decide)) hv) (one [63,62] (by decide))
theorem flat_vx:∀ {ts:List IT} {last:Int},Chn last ts → VX (flatL ts)
 | [],_,_=>vx_nil
 | t :: ts,last,h=>by
  obtain ⟨k,hk,f⟩:=fits_of h.1
  have e:flatL (t :: ts) = lOf (wrB t.k.toNat t.nm t.vl) ++ flatL ts:=by unfold flatL;rw [List.flatMap_cons]
  rw [e,hk,Int.toNat_natCast]
  exact vx_app (wr_vx f) (flat_vx h.2)
theorem fl_flat:∀ ts:List IT,(fl ts).map UInt8.toNat = flatL ts
 | []=>rfl
 | t :: ts=>by
  have e:flatL (t :: ts) = lOf (wrB t.k.toNat t.nm t.vl) ++ flatL ts:=by unfold flatL;rw [List.flatMap_cons]
  rw [fl_cons,List.map_append,fl_flat ts,e]
  rfl
theorem flat_fl (ts:List IT):li (sOf (flatL ts)) = fl ts:=by
 have h:=congrArg li (sOf_lOf (bs (fl ts)))
 rw [show li (bs (fl ts)) = _ from bs_list _] at h
 rw [← h,lof_li,show li (bs (fl ts)) = _ from bs_list _,fl_flat]
theorem toks_same {s:ByteArray} {f g:Option Nat} {a b:Nat} (h:pieceZ s f a = pieceZ s g b):toksZ s f a = toksZ s g b:=by
 unfold toksZ
 simp only [toksF,h]
theorem begin_content {s:ByteArray} (hs:s.size ≤ 1048576) (hv:VX (lOf s)) (hp:Lib.hasPrefix s.data.toList bXML.data.toList = false):toksN s = toksZ s (some 88) 0:=by
 have hz:beginZ s = .go (some 88) 0 none:=by
  unfold beginZ
  rw [if_neg (by omega),if_pos ((chars_iff s).2 hv),if_neg (by rw [hp];decide)]
 apply toks_same
 show runZ s 3 _ 0 = runZ s 2 _ 0
 rw [runZ,stepZ_begin,hz]
theorem begin_decl {s:ByteArray} (hs:s.size ≤ 1048576) (hv:VX (lOf s)) (hp:Lib.hasPrefix s.data.toList bXML.data.toList = true):pieceZ s (some 66) 0 = match declZ s with
  | .bad e p=>.bad e p
  | .go nx b (some t)=>.told nx b t
  | .go nx b none=>runZ s 1 nx b:=by
 have hz:beginZ s = .go (some 87) 0 none:=by
  unfold beginZ
  rw [if_neg (by omega),if_pos ((chars_iff s).2 hv),if_pos hp]
 show runZ s 3 _ 0 = _
 rw [runZ,stepZ_begin,hz]
 dsimp only
 rw [runZ,stepZ_declaration]
 rfl
theorem ok_begin {s:ByteArray} (hs:s.size ≤ 1048576):okO s 0 (some 66):=by
 show stOk s _ 0
 unfold stOk
 left
 exact ⟨rfl,rfl,by omega⟩
theorem chn_two {ts:List IT} (h:Chn (-1) ts) (h7:∀ t r,ts = t :: r → t.k ≠ 7):Chn 2 ts:=by
 cases ts with
 | nil=>exact (show inT 2 = false by decide)
 | cons t ts =>
  obtain ⟨k,hk,f⟩:=fits_of h.1
  have hk7:k ≠ 7:=fun hh=>h7 t ts rfl (by rw [hk,hh];rfl)
  refine ⟨fits_put hk ⟨f.lt,f.n0,f.v0,f.tag.trans (by decide),fun hh=>absurd hh hk7,fun hh=>⟨(f.t5 hh).1,by decide⟩,f.nm,f.vx,f.c6,f.c7⟩,h.2⟩
theorem no_decl {ts:List IT} (h:Chn 2 ts):Lib.hasPrefix (fl ts) bXML.data.toList = false:=by
 cases ts with
 | nil=>rfl
 | cons t ts =>
  obtain ⟨k,hk,f⟩:=fits_of h.1
  have ht:shT k = false:=f.tag
  have hk3:¬ (k = 1 ∨ k = 2 ∨ k = 3):=of_decide_eq_false ht
  have h7:k ≠ 7:=fun hh=>absurd (f.d hh) (by decide)
  have h8:=f.lt
  have cs:k = 0 ∨ k = 4 ∨ k = 5 ∨ k = 6:=by omega
  rw [fl_cons]
  unfold wL Lib.hasPrefix
  rw [hk,Int.toNat_natCast]
  show List.isPrefixOf [60,63,120,109,108] _ = false
  rcases cs with rfl | rfl | rfl | rfl
  ·obtain ⟨b,r,e,hb⟩:=name_cons (f.nm (by decide))
   rw [wl0,e]
   have:((63:UInt8) == b) = false:=byte_ne (by have:=hb.2.2.2.2.2.2;exact fun hh=>this (hh.symm))
   simp [List.isPrefixOf,this]
  ·rw [wl4]
   rfl
  ·have hne:=esc_ne (attr:=false) (f.t5 rfl).1
   obtain ⟨c,r,e⟩:=List.exists_cons_of_ne_nil hne
   have hc:c.toNat ≠ 60:=(esc_byte false t.vl (by rw [e];simp)).1
   have:((60:UInt8) == c) = false:=byte_ne (fun hh=>hc hh.symm)
   rw [wl5,e]
   simp [List.isPrefixOf,this]
  ·rw [wl6]
   rfl
theorem vx_lt {l:List Nat} (h:VX l):∀ b ∈ l,b < 256:=by
 obtain ⟨cs,hcs,rfl⟩:=h
 intro b hb
 obtain ⟨c,hc,hm⟩:=List.mem_flatMap.1 hb
 have:=xml_bd (hcs c hc)
 unfold encN at hm
 split at hm
 ·simp at hm;omega
 ·split at hm
  ·simp at hm;omega
  ·split at hm <;> (simp at hm;omega)
theorem vx_from {s:ByteArray} {q:Nat} (hv:VX (lOf s)) (hq:q < s.size) (hc:ch s q < 128):VX ((lOf s).drop (q + 1)) ∧ VX ((lOf s).drop q):=by
 have e:lOf s = (lOf s).take q ++ ch s q :: (lOf s).drop (q + 1):=by
  rw [← lof_cons s q hq,List.take_append_drop]
 rw [e] at hv
 obtain ⟨_,h2,h3⟩:=vx_split hv hc
 refine ⟨h3,?_⟩
 rw [lof_cons s q hq]
 exact vx_app (vx_one hc h2) h3
theorem vx_mid {s:ByteArray} {a e:Nat} (hv:VX ((lOf s).drop a)) (h1:a ≤ e) (h2:e = s.size ∨ e < s.size ∧ ch s e < 128):VX (lOf (s.extract a e)):=by
 rw [lOf_extract]
 rcases h2 with rfl | ⟨h2,h3⟩
 ·rw [List.take_of_length_le (by rw [List.length_drop,lOf_length];omega)]
  exact hv
 ·have e1:(lOf s).drop a = ((lOf s).drop a).take (e - a) ++ ch s e :: (lOf s).drop (e + 1):=by
   rw [← lof_cons s e h2]
   conv=>lhs;rw [← List.take_append_drop (e - a) ((lOf s).drop a)]
   rw [List.drop_drop,show a + (e - a) = e by omega]
  rw [e1] at hv
  exact (vx_split hv h3).1
theorem une_zero (s:ByteArray):∀ (n a:Nat) (acc:List Nat),(uneF s n a acc).2.1 = 0 → uneF s n a acc = ((uneF s n a acc).1,0,0)
 | 0,_,_,_=>rfl
 | n + 1,a,acc,h=>by
  rw [uneF] at h ⊢
  split
  ·rfl
  ·rename_i h1
   rw [if_neg h1] at h
   split
   ·rename_i h2
    rw [if_pos h2] at h
    split
    ·rename_i M b he
     rw [he] at h
     exact une_zero s n b _ h
    ·rename_i he
     rw [he] at h
     exact absurd (show (22:Nat) = 0 from h) (by decide)
   ·rename_i h2
    rw [if_neg h2] at h
    exact une_zero s n _ _ h
theorem plain_inv {v t:ByteArray} {p:Nat} (h:plainZ v p = (none,t)) (hv:VX (lOf v)):VX (lOf t) ∧ t.size ≤ v.size ∧ (0 < v.size → 0 < t.size):=by
 unfold plainZ at h
 split at h
 ·rename_i h0
  injection h with _ h1
  have hz:=une_zero v _ _ _ h0
  have hu:=une_vx v (v.size + 1) 0 [] (uneN v).1 (by omega) (Nat.zero_le _) hz (by rw [List.nil_append,List.drop_zero];exact hv)
  have e:lOf t = (uneN v).1:=by rw [← h1,lOf_sOf _ (vx_lt hu.1)]
  have e2:t.size = (uneN v).1.length:=by rw [← e,lOf_length]
  rw [e,e2]
  refine ⟨hu.1,?_,fun h=>?_⟩
  ·have:=hu.2.1;simp at this;omega
  ·have:=hu.2.2.2 h;simpa using this
 ·cases h
theorem name_inv {s nm:ByteArray} {a b:Nat} (ha:a ≤ s.size) (h:nameZ s a = .val nm b):xmlNameB nm = true ∧ b = a + nm.size ∧ 0 < nm.size ∧ b ≤ s.size ∧ ch s (b - 1) < 128:=by
 unfold nameZ at h
 split at h
 ·cases h
 ·split at h
  ·rename_i h1 h2
   injection h with h3 h4
   have hu:=upN_le NEb.data.toList s a ha
   rw [h3] at h2
   rw [h4] at hu h3
   have hz:nm.size = b - a:=by rw [← h3];exact size_ext s a b hu.2
   have hp:=(name_ch h2).1
   refine ⟨h2,by omega,hp,hu.2,?_⟩
   have hc:=nxml_bd ((name_ch h2).2 (nm.size - 1) (by omega))
   have he:ch nm (nm.size - 1) = ch s (b - 1):=by
    rw [← h3,ch_ext s a b _ (by rw [h3];omega),h3]
    congr 1
    omega
   rw [he] at hc
   omega
  ·cases h
theorem value_inv {s vl:ByteArray} {a c:Nat} (hv:VX (lOf s)) (h:valueZ s a = .val vl c):VX (lOf vl) ∧ a + 2 + vl.size ≤ c ∧ c ≤ s.size ∧ ch s (c - 1) < 128:=by
 have main:∀ q:UInt8,q.toNat < 128 → a < s.size → ch s a = q.toNat → valQ s a q = .val vl c → VX (lOf vl) ∧ a + 2 + vl.size ≤ c ∧ c ≤ s.size ∧ ch s (c - 1) < 128:=by
  intro q hq ha hc h
  unfold valQ at h
  have hu:=upN_le [60,q] s (a + 1) (by omega)
  generalize upN [60,q] s (a + 1) = e at h hu
  split at h
  ·cases h
  ·rename_i h1
   split at h
   ·rename_i h2
    cases hp:plainZ (s.extract (a + 1) e) (a + 1) with
    | mk o t =>
     rw [hp] at h
     cases o with
     | none =>
      dsimp only at h
      injection h with h3 h4
      have hmid:=vx_mid (vx_from hv ha (by omega)).1 hu.1 (Or.inr ⟨by omega,by omega⟩)
      have hpl:=plain_inv hp hmid
      rw [size_ext s _ _ hu.2] at hpl
      rw [← h3,← h4]
      refine ⟨hpl.1,by omega,by omega,?_⟩
      rw [show e + 1 - 1 = e by omega,h2]
      exact hq
     | some ep=>cases h
   ·cases h
 unfold valueZ at h
 split at h
 ·cases h
 ·split at h
  ·rename_i h1 h2
   exact main 34 (by decide) (by omega) h2 h
  ·split at h
   ·rename_i h1 h2 h3
    exact main 39 (by decide) (by omega) h3 h
   ·cases h
theorem vx_E0:VX (lOf E0):=vx_nil
theorem wr_size {k:Nat} {nm vl:ByteArray} (hk:k < 8):(wrB k nm vl).size ≤ (if k = 0 then nm.size + 1 else if k = 1 then nm.size + 6 * vl.size + 4 else if k = 2 then 1 else if k = 3 then 2 else if k = 4 then nm.size + 3 else if k = 5 then 6 * vl.size else vl.size + 7):=by
 have he:∀ attr,(escB attr vl).size ≤ 6 * vl.size:=fun attr=>by
  have:=escL_len attr (lOf vl)
  rw [lOf_length] at this
  unfold escB
  rw [sOf_size]
  exact this
 rw [← tl_len]
 have cases:k = 0 ∨ k = 1 ∨ k = 2 ∨ k = 3 ∨ k = 4 ∨ k = 5 ∨ k = 6 ∨ k = 7:=by omega
 have h1:=he true
 have h2:=he false
 rcases cases with rfl | rfl | rfl | rfl | rfl | rfl | rfl | rfl
 ·rw [wl0];simp only [List.length_cons,tl_len];exact Nat.le_refl _
 ·rw [wl1];simp only [List.length_cons,List.length_append,List.length_nil,tl_len];show _ ≤ nm.size + 6 * vl.size + 4;omega
 ·rw [wl2];exact Nat.le_refl _
 ·rw [wl3];exact Nat.le_refl _
 ·rw [wl4];simp only [List.length_cons,List.length_append,List.length_nil,tl_len];show _ ≤ nm.size + 3;omega
 ·rw [wl5,tl_len];exact h2
 ·rw [wl6];simp only [List.length_cons,List.length_append,List.length_nil,tl_len];exact Nat.le_refl _
 ·rw [wl7];simp only [List.length_cons,List.length_append,List.length_nil,tl_len];exact Nat.le_refl _
structure Got (s:ByteArray) (last:Int) (a:Nat) (nx:Option Nat) (b:Nat) (t:Tok):Prop where
 f:Fits last t.k t.nm t.vl
 nx:nx = some (stN (t.k:Int))
 vx:VX ((lOf s).drop b)
 t5:t.k = 5 → b = s.size ∨ ch s b = 60
 sz:(wrB t.k t.nm t.vl).size ≤ 6 * (b - a)
 le:b ≤ s.size
theorem fit2 {last:Int} (hi:inT last = true):Fits last 2 E0 E0:=⟨by decide,fun _=>rfl,fun _=>rfl,hi.symm,fun hh=>absurd hh (by decide),fun hh=>absurd hh (by decide),fun hh=>absurd hh (by decide),vx_E0,fun hh=>absurd hh (by decide),fun hh=>absurd hh (by decide)⟩
theorem fit3 {last:Int} (hi:inT last = true):Fits last 3 E0 E0:=⟨by decide,fun _=>rfl,fun _=>rfl,hi.symm,fun hh=>absurd hh (by decide),fun hh=>absurd hh (by decide),fun hh=>absurd hh (by decide),vx_E0,fun hh=>absurd hh (by decide),fun hh=>absurd hh (by decide)⟩
theorem fit1 {last:Int} {nm vl:ByteArray} (hi:inT last = true) (hn:xmlNameB nm = true) (hv:VX (lOf vl)):Fits last 1 nm vl:=⟨by decide,fun hh=>absurd hh (by decide),fun hh=>absurd hh (by decide),hi.symm,fun hh=>absurd hh (by decide),fun hh=>absurd hh (by decide),fun _=>hn,hv,fun hh=>absurd hh (by decide),fun hh=>absurd hh (by decide)⟩
theorem fit0 {last:Int} {nm:ByteArray} (hi:inT last = false) (hn:xmlNameB nm = true):Fits last 0 nm E0:=⟨by decide,fun hh=>absurd hh (by decide),fun _=>rfl,hi.symm,fun hh=>absurd hh (by decide),fun hh=>absurd hh (by decide),fun _=>hn,vx_E0,fun hh=>absurd hh (by decide),fun hh=>absurd hh (by decide)⟩
theorem fit4 {last:Int} {nm:ByteArray} (hi:inT last = false) (hn:xmlNameB nm = true):Fits last 4 nm E0:=⟨by decide,fun hh=>absurd hh (by decide),fun _=>rfl,hi.symm,fun hh=>absurd hh (by decide),fun hh=>absurd hh (by decide),fun _=>hn,vx_E0,fun hh=>absurd hh (by decide),fun hh=>absurd hh (by decide)⟩
theorem fit5 {last:Int} {vl:ByteArray} (hi:inT last = false) (hv:VX (lOf vl)) (h0:0 < vl.size) (h5:last ≠ 5):Fits last 5 E0 vl:=⟨by decide,fun _=>rfl,fun hh=>absurd hh (by decide),hi.symm,fun hh=>absurd hh (by decide),fun _=>⟨h0,h5⟩,fun hh=>absurd hh (by decide),hv,fun hh=>absurd hh (by decide),fun hh=>absurd hh (by decide)⟩
theorem fit6 {last:Int} {vl:ByteArray} (hi:inT last = false) (hv:VX (lOf vl)) (hc:comB vl = true):Fits last 6 E0 vl:=⟨by decide,fun _=>rfl,fun hh=>absurd hh (by decide),hi.symm,fun hh=>absurd hh (by decide),fun hh=>absurd hh (by decide),fun hh=>absurd hh (by decide),hv,fun _=>hc,fun hh=>absurd hh (by decide)⟩
theorem fit7 {vl:ByteArray} (hv:VX (lOf vl)) (hc:dclB vl = true):Fits (-1) 7 E0 vl:=⟨by decide,fun _=>rfl,fun hh=>absurd hh (by decide),by decide,fun _=>rfl,fun hh=>absurd hh (by decide),fun hh=>absurd hh (by decide),hv,fun hh=>absurd hh (by decide),fun _=>hc⟩
theorem got_mk {s:ByteArray} {last:Int} {a:Nat} {nx:Option Nat} {b k p:Nat} {nm vl:ByteArray} (f:Fits last k nm vl) (hn:nx = some (stN (k:Int))) (hv:VX ((lOf s).drop b)) (h5:k = 5 → b = s.size ∨ ch s b = 60) (hz:(wrB k nm vl).size ≤ 6 * (b - a)) (hb:b ≤ s.size):Got s last a nx b ⟨k,nm,vl,p⟩:=⟨f,hn,hv,h5,hz,hb⟩
theorem after {s:ByteArray} {b:Nat} (hv:VX (lOf s)) (h0:0 < b) (hb:b ≤ s.size) (hc:ch s (b - 1) < 128):VX ((lOf s).drop b):=by
 have:=(vx_from hv (q:=b - 1) (by omega) hc).1
 rwa [show b - 1 + 1 = b by omega] at this
theorem got_inTag {s:ByteArray} {last:Int} {a:Nat} {nx:Option Nat} {b:Nat} {t:Tok} (hv:VX (lOf s)) (ha:a ≤ s.size) (hi:inT last = true) (h:pieceZ s (some 153) a = .told nx b t):Got s last a nx b t:=by
 replace h:runZ s 2 (some 153) a = .told nx b t:=h
 rw [runZ,stepZ_inTag] at h
 have hk:=skN_le s a ha
 unfold inTagZ at h
 generalize skN s a = p at h hk
 split at h
 ·rename_i e1 e2;cases h
 ·rename_i e1 e2
  cases h
  split at e2
  ·cases e2
  ·split at e2
   ·cases e2
   ·split at e2
    ·cases e2
    ·split at e2 <;> cases e2
 ·rename_i nx' b' e2
  split at e2
  ·cases e2
  ·split at e2
   ·rename_i h1 h2
    injection e2 with e3 e4
    subst e3;subst e4
    rw [runZ,stepZ_tagEnd] at h
    simp only [tagEndZ] at h
    injection h with h3 h4 h5
    subst h3;subst h4;subst h5
    refine got_mk (fit2 hi) rfl (vx_from hv (by omega) (by omega)).1 (fun hh=>absurd hh (by decide)) ?_ (by omega)
    show 1 ≤ 6 * (p + 1 - a)
    omega
   ·split at e2
    ·rename_i h1 h2 h3
     injection e2 with e3 e4
     subst e3;subst e4
     rw [runZ,stepZ_emptyEnd] at h
     unfold emptyEndZ at h
     cases hx:expZ s (p + 1) 62 with
     | some ep=>rw [hx] at h;cases h
     | none =>
      rw [hx] at h
      have hx2:=expZ_none hx
      injection h with h3 h4 h5
      subst h3;subst h4;subst h5
      refine got_mk (fit3 hi) rfl (vx_from hv hx2.1 (by omega)).1 (fun hh=>absurd hh (by decide)) ?_ (by omega)
      show 2 ≤ 6 * (p + 1 + 1 - a)
      omega
    ·split at e2
     ·rename_i h1 h2 h3 h4
      injection e2 with e3 e4
      subst e3;subst e4
      rw [runZ,stepZ_attribute] at h
      unfold attrZ at h
      cases hn:nameZ s p with
      | bad e q=>rw [hn] at h;cases h
      | val nm b1 =>
       rw [hn] at h
       dsimp only at h
       have hn2:=name_inv hk.2 hn
       have hk2:=skN_le s b1 hn2.2.2.2.1
       cases hx:expZ s (skN s b1) 61 with
       | some ep=>rw [hx] at h;cases h
       | none =>
        rw [hx] at h
        dsimp only at h
        have hx2:=expZ_none hx
        have hk3:=skN_le s (skN s b1 + 1) (by omega)
        cases hva:valueZ s (skN s (skN s b1 + 1)) with
        | bad e q=>rw [hva] at h;cases h
        | val vl c =>
         rw [hva] at h
         dsimp only at h
         have hva2:=value_inv hv hva
         injection h with h3 h4 h5
         subst h3;subst h4;subst h5
         have hw:=wr_size (k:=1) (nm:=nm) (vl:=vl) (by decide)
         rw [if_neg (by decide),if_pos rfl] at hw
         refine got_mk (fit1 hi hn2.1 hva2.1) rfl (after hv (by omega) hva2.2.2.1 hva2.2.2.2) (fun hh=>absurd hh (by decide)) ?_ hva2.2.2.1
         show (wrB 1 nm vl).size ≤ 6 * (c - a)
         omega
     ·cases e2
theorem up_at {E:List UInt8} {s:ByteArray} {a:Nat} (ha:a ≤ s.size) (h:upN E s a < s.size):∃ c,E.contains c = true ∧ ch s (upN E s a) = c.toNat:=by
 have hd:(Dr s a).findIdx (E.contains ·) < (Dr s a).length:=by
  unfold upN at h
  rw [drop_len]
  show List.findIdx _ (s.data.toList.drop a) < _
  omega
 refine ⟨(Dr s a)[(Dr s a).findIdx (E.contains ·)]'hd,List.findIdx_getElem (w:=hd),?_⟩
 unfold upN ch
 simp only [List.getD]
 have e:s.data.toList[a + (Dr s a).findIdx (E.contains ·)]? = some ((Dr s a)[(Dr s a).findIdx (E.contains ·)]'hd):=by
  rw [← List.getElem?_drop]
  exact List.getElem?_eq_getElem hd
 rw [show List.drop a s.data.toList = Dr s a from rfl,e]
 rfl
theorem up_first {E:List UInt8} {s:ByteArray} {a:Nat} {c:UInt8} (hc:E.contains c = false) (ha:a < s.size) (h:ch s a = c.toNat):a < upN E s a:=by
 cases e:Dr s a with
 | nil=>have:=dr_nil e;omega
 | cons d l =>
  have hd:=dr_cons e
  have:d = c:=UInt8.toNat_inj.1 (hd.2.1.symm.trans h)
  unfold upN
  unfold Dr at e
  rw [e,List.findIdx_cons,this,hc]
  show a < a + (_ + 1)
  omega
theorem got_content {s:ByteArray} {last:Int} {a:Nat} {nx:Option Nat} {b:Nat} {t:Tok} (hv:VX (lOf s)) (ha:a ≤ s.size) (hi:inT last = false) (hva:VX ((lOf s).drop a)) (h5:last = 5 → a = s.size ∨ ch s a = 60) (h:pieceZ s (some 88) a = .told nx b t):Got s last a nx b t:=by
 replace h:runZ s 2 (some 88) a = .told nx b t:=h
 by_cases h0:s.size ≤ a
 ·have hz:contentZ s a = .go none a none:=by unfold contentZ;rw [if_pos h0]
  simp only [runZ,stepZ_content,hz] at h
  cases h
 ·by_cases h60:ch s a = 60
  ·by_cases h47:a + 1 < s.size ∧ ch s (a + 1) = 47
   ·have hz:contentZ s a = .go (some 114) a none:=by unfold contentZ;rw [if_neg h0,if_pos h60,if_pos h47]
    simp only [runZ,stepZ_content,hz,stepZ_endTag] at h
    unfold endZ at h
    cases hn:nameZ s (a + 2) with
    | bad e q=>rw [hn] at h;cases h
    | val nm b1 =>
     rw [hn] at h
     dsimp only at h
     have hn2:=name_inv (by omega) hn
     have hk2:=skN_le s b1 hn2.2.2.2.1
     cases hx:expZ s (skN s b1) 62 with
     | some ep=>rw [hx] at h;cases h
     | none =>
      rw [hx] at h
      dsimp only at h
      have hx2:=expZ_none hx
      injection h with h3 h4 h6
      subst h3;subst h4;subst h6
      have hw:=wr_size (k:=4) (nm:=nm) (vl:=E0) (by decide)
      refine got_mk (fit4 hi hn2.1) rfl (vx_from hv hx2.1 (by omega)).1 (fun hh=>absurd hh (by decide)) ?_ (by omega)
      have hw2:(wrB 4 nm E0).size ≤ nm.size + 3:=hw
      omega
   ·by_cases h33:a + 1 < s.size ∧ ch s (a + 1) = 33
    ·have hz:contentZ s a = .go (some 115) a none:=by unfold contentZ;rw [if_neg h0,if_pos h60,if_neg h47,if_pos h33]
     simp only [runZ,stepZ_content,hz,stepZ_comment] at h
     unfold commentZ at h
     cases hx:expZ s (a + 2) 45 with
     | some ep=>rw [hx] at h;cases h
     | none =>
      rw [hx] at h
      dsimp only at h
      cases hy:expZ s (a + 2 + 1) 45 with
      | some ep=>rw [hy] at h;cases h
      | none =>
       rw [hy] at h
       dsimp only at h
       have hy2:=expZ_none hy
       by_cases hc:(comL s (a + 2 + 1 + 1)).2.2 = true
       ·rw [if_pos hc] at h
        have hk:∃ k:Nat,Lib.index (Dr s (a + 2 + 1 + 1)) [45,45] = (k:Int) ∧ (comL s (a + 2 + 1 + 1)).1 = (Dr s (a + 2 + 1 + 1)).take k:=by
         have hc2:(Lib.cut (Dr s (a + 2 + 1 + 1)) [45,45]).2.2 = true:=hc
         show ∃ k:Nat,_ ∧ (Lib.cut (Dr s (a + 2 + 1 + 1)) [45,45]).1 = _
         unfold Lib.cut at hc2 ⊢
         split at hc2
         ·rename_i hge
          rw [if_pos hge]
          exact ⟨_,(Int.toNat_of_nonneg hge).symm,rfl⟩
         ·cases hc2
        obtain ⟨k,hk1,hk2⟩:=hk
        obtain ⟨i1,i2,i3,i4⟩:=idx_cut _ k hk1
        rw [drop_len] at i3
        have hlen:(comL s (a + 2 + 1 + 1)).1.length = k:=by rw [hk2,List.length_take,drop_len];omega
        rw [hlen] at h
        obtain ⟨y,hy3⟩:∃ y,Dr s (a + 2 + 1 + 1 + k) = 45 :: 45 :: y:=by
         obtain ⟨y,hy⟩:=List.isPrefixOf_iff_prefix.1 i4
         exact ⟨y,by unfold Dr at hy ⊢;rw [List.drop_drop] at hy;exact hy.symm⟩
        obtain ⟨j1,j2,j3⟩:=dr_at 45 hy3 rfl
        obtain ⟨l1,l2,l3⟩:=dr_at 45 j3 rfl
        by_cases hsz:s.size ≤ a + 2 + 1 + 1 + k + 2
        ·rw [if_pos hsz] at h;cases h
        ·rw [if_neg hsz] at h
         by_cases h62:ch s (a + 2 + 1 + 1 + k + 2) = 62
         ·rw [if_pos h62] at h
          dsimp only at h
          injection h with h3 h4 h6
          subst h3;subst h4;subst h6
          have e1:bs (comL s (a + 2 + 1 + 1)).1 = s.extract (a + 2 + 1 + 1) (a + 2 + 1 + 1 + k):=by
           apply ba_ext
           rw [bs_list,hk2,list_ext,Nat.add_sub_cancel_left]
          have hz2:(bs (comL s (a + 2 + 1 + 1)).1).size = k:=by rw [e1,size_ext s _ _ (by omega)];omega
          have hvl:VX (lOf (bs (comL s (a + 2 + 1 + 1)).1)):=by
           rw [e1]
           exact vx_mid (vx_from hv hy2.1 (by omega)).1 (by omega) (Or.inr ⟨j1,by omega⟩)
          have hcom:comB (bs (comL s (a + 2 + 1 + 1)).1) = true:=by
           unfold comB
           rw [bs_list,hk2]
           have c1:Lib.contains (List.take k (Dr s (a + 2 + 1 + 1))) bHH.data.toList = false:=by
            unfold Lib.contains
            exact decide_eq_false (by rw [show bHH.data.toList = [45,45] from rfl,i1];decide)
           have c2:Lib.hasSuffix (List.take k (Dr s (a + 2 + 1 + 1))) [45] = false:=i2
           rw [c1,c2]
           rfl
          have hw:=wr_size (k:=6) (nm:=E0) (vl:=bs (comL s (a + 2 + 1 + 1)).1) (by decide)
          refine got_mk (fit6 hi hvl hcom) rfl ?_ (fun hh=>absurd hh (by decide)) ?_ (by omega)
          ·exact (vx_from hv (q:=a + 2 + 1 + 1 + k + 2) (by omega) (by omega)).1
          ·have hw2:(wrB 6 E0 (bs (comL s (a + 2 + 1 + 1)).1)).size ≤ (bs (comL s (a + 2 + 1 + 1)).1).size + 7:=hw
           omega
         ·rw [if_neg h62] at h;cases h
       ·rw [if_neg hc] at h
        cases h
    ·by_cases h63:a + 1 < s.size ∧ ch s (a + 1) = 63
     ·have hz:contentZ s a = .bad 44 a:=by unfold contentZ;rw [if_neg h0,if_pos h60,if_neg h47,if_neg h33,if_pos h63]
      simp only [runZ,stepZ_content,hz] at h
      cases h
     ·have hz:contentZ s a = .go (some 116) a none:=by unfold contentZ;rw [if_neg h0,if_pos h60,if_neg h47,if_neg h33,if_neg h63]
      simp only [runZ,stepZ_content,hz,stepZ_startTag] at h
      unfold startZ at h
      cases hn:nameZ s (a + 1) with
      | bad e q=>rw [hn] at h;cases h
      | val nm b1 =>
       rw [hn] at h
       dsimp only at h
       have hn2:=name_inv (by omega) hn
       injection h with h3 h4 h6
       subst h3;subst h4;subst h6
       have hw:=wr_size (k:=0) (nm:=nm) (vl:=E0) (by decide)
       refine got_mk (fit0 hi hn2.1) rfl (after hv (by omega) hn2.2.2.2.1 hn2.2.2.2.2) (fun hh=>absurd hh (by decide)) ?_ hn2.2.2.2.1
       have hw2:(wrB 0 nm E0).size ≤ nm.size + 1:=hw
       omega
  ·have hz:contentZ s a = .go (some 113) a none:=by unfold contentZ;rw [if_neg h0,if_neg h60]
   simp only [runZ,stepZ_content,hz,stepZ_text] at h
   unfold textZ at h
   have hu:=upN_le [60] s a ha
   have hlt:a < upN [60] s a:=by
    cases e:Dr s a with
    | nil=>have:=dr_nil e;omega
    | cons d l =>
     have hd:=dr_cons e
     refine up_first (c:=d) ?_ (by omega) hd.2.1
     simp only [List.contains_cons,List.contains_nil,Bool.or_false]
     exact byte_ne (fun hh=>h60 (hd.2.1.trans hh))
   have hend:upN [60] s a = s.size ∨ upN [60] s a < s.size ∧ ch s (upN [60] s a) = 60:=by
    by_cases hh:upN [60] s a < s.size
    ·obtain ⟨c,hc,hc2⟩:=up_at ha hh
     right
     have:c = 60:=by simpa using hc
     rw [this] at hc2
     exact ⟨hh,hc2⟩
    ·left;omega
   generalize upN [60] s a = e at h hu hlt hend
   cases hp:plainZ (s.extract a e) a with
   | mk o v =>
    rw [hp] at h
    cases o with
    | some ep=>cases h
    | none =>
     dsimp only at h
     injection h with h3 h4 h6
     subst h3;subst h4;subst h6
     have hpl:=plain_inv hp (vx_mid hva hu.1 (hend.imp id fun h1=>⟨h1.1,by omega⟩))
     rw [size_ext s a e hu.2] at hpl
     have hw:=wr_size (k:=5) (nm:=E0) (vl:=v) (by decide)
     refine got_mk (fit5 hi hpl.1 (hpl.2.2 (by omega)) (fun hh=>?_)) rfl ?_ (fun _=>?_) ?_ hu.2
     ·rcases h5 hh with h1 | h1
      ·omega
      ·exact h60 h1
     ·rcases hend with h1 | h1
      ·rw [List.drop_eq_nil_of_le (by rw [lOf_length];omega)]
       exact vx_nil
      ·exact (vx_from hv h1.1 (by omega)).2
     ·rcases hend with h1 | h1
      ·exact Or.inl h1
      ·exact Or.inr h1.2
     ·have hw2:(wrB 5 E0 v).size ≤ 6 * v.size:=hw
      omega
theorem end_inTag {s:ByteArray} {a b:Nat} (h:pieceZ s (some 153) a = .end_ b):False:=by
 replace h:runZ s 2 (some 153) a = .end_ b:=h
 rw [runZ,stepZ_inTag] at h
 unfold inTagZ at h
 generalize skN s a = p at h
 by_cases h1:s.size ≤ p
 ·rw [if_pos h1] at h;cases h
 ·rw [if_neg h1] at h
  by_cases h2:ch s p = 62
  ·rw [if_pos h2] at h
   simp only [runZ,stepZ_tagEnd,tagEndZ] at h
   cases h
  ·rw [if_neg h2] at h
   by_cases h3:ch s p = 47
   ·rw [if_pos h3] at h
    simp only [runZ,stepZ_emptyEnd] at h
    unfold emptyEndZ at h
    cases hx:expZ s (p + 1) 62 with
    | some ep=>rw [hx] at h;cases h
    | none=>rw [hx] at h;cases h
   ·rw [if_neg h3] at h
    by_cases h4:a < p
    ·rw [if_pos h4] at h
     simp only [runZ,stepZ_attribute] at h
     unfold attrZ at h
     cases hn:nameZ s p with
     | bad e q=>rw [hn] at h;cases h
     | val nm b1 =>
      rw [hn] at h
      dsimp only at h
      cases hx:expZ s (skN s b1) 61 with
      | some ep=>rw [hx] at h;cases h
      | none =>
       rw [hx] at h
       dsimp only at h
       cases hva:valueZ s (skN s (skN s b1 + 1)) with
       | bad e q=>rw [hva] at h;cases h
       | val vl c=>rw [hva] at h;cases h
    ·rw [if_neg h4] at h;cases h
theorem it_k (t:Tok):t.it.k = (t.k:Int):=rfl
theorem fwd (s:ByteArray) (hs:s.size ≤ 1048576) (hv:VX (lOf s)):∀ (n:Nat) (last:Int) (a:Nat) (us:List Tok),s.size - a < n → a ≤ s.size → VX ((lOf s).drop a) → (last = 5 → a = s.size ∨ ch s a = 60) → toksZ s (some (stN last)) a = (us,none) → Chn last (us.map Tok.it) ∧ (flatL (us.map Tok.it)).length ≤ 6 * (s.size - a)
 | 0,_,_,_,hn,_,_,_,_=>by omega
 | n + 1,last,a,us,hn,ha,hva,h5,h=>by
  cases hp:pieceZ s (some (stN last)) a with
  | bad e p =>
   rw [toksZ_bad hp] at h
   cases h
  | end_ b =>
   rw [toksZ_end hp] at h
   injection h with h1 _
   subst h1
   refine ⟨?_,by show 0 ≤ _;omega⟩
   show inT last = false
   cases hi:inT last
   ·rfl
   ·unfold stN at hp
    rw [if_pos hi] at hp
    exact absurd (end_inTag hp) id
  | told nx b t =>
   have hg:Got s last a nx b t:=by
    unfold stN at hp
    cases hi:inT last
    ·rw [if_neg (by rw [hi];decide)] at hp
     exact got_content hv ha hi hva h5 hp
    ·rw [if_pos hi] at hp
     exact got_inTag hv ha hi hp
   have hbd:=piece_told (ok_st last hs ha) hp
   rw [toksZ_told (ok_st last hs ha) hp] at h
   injection h with h1 h2
   have ih:=fwd s hs hv n (t.k:Int) b (toksZ s nx b).1 (by omega) hg.le hg.vx (fun hh=>hg.t5 (by omega)) (by rw [← hg.nx];exact Prod.ext rfl h2)
   subst h1
   refine ⟨⟨fits_put (it_k t) hg.f,ih.1⟩,?_⟩
   have e:flatL ((t :: (toksZ s nx b).1).map Tok.it) = lOf (wrB t.k t.nm t.vl) ++ flatL ((toksZ s nx b).1.map Tok.it):=by
    unfold flatL
    rw [List.map_cons,List.flatMap_cons]
    rfl
   rw [e,List.length_append,lOf_length]
   have h6:=hg.sz
   have h7:=hg.le
   omega
theorem toks_ok {s:ByteArray} {us:List Tok} (h:toksN s = (us,none)):s.size ≤ 1048576 ∧ VX (lOf s):=by
 by_cases h1:1048576 < s.size
 ·exfalso
  have hz:beginZ s = .bad 45 1048576:=by unfold beginZ;rw [if_pos h1]
  have hp:pieceZ s (some 66) 0 = .bad 45 1048576:=by
   show runZ s 3 _ 0 = _
   rw [runZ,stepZ_begin,hz]
  unfold toksN at h
  rw [toksZ_bad hp] at h
  cases h
 ·refine ⟨by omega,?_⟩
  by_cases h2:(faultN xmlB s).1 = 0
  ·exact (chars_iff s).1 h2
  ·exfalso
   have hz:beginZ s = .bad (faultN xmlB s).1 (faultN xmlB s).2:=by unfold beginZ;rw [if_neg h1,if_neg h2]
   have hp:pieceZ s (some 66) 0 = .bad (faultN xmlB s).1 (faultN xmlB s).2:=by
    show runZ s 3 _ 0 = _
    rw [runZ,stepZ_begin,hz]
   unfold toksN at h
   rw [toksZ_bad hp] at h
   cases h
theorem fwd_all {s:ByteArray} {us:List Tok} (h:toksN s = (us,none)):Chn (-1) (us.map Tok.it) ∧ (flatL (us.map Tok.it)).length ≤ 6 * s.size:=by
 obtain ⟨hs,hv⟩:=toks_ok h
 cases hp:Lib.hasPrefix s.data.toList bXML.data.toList
 ·rw [begin_content hs hv hp] at h
  have hf:=fwd s hs hv (s.size + 1) 2 0 us (by omega) (Nat.zero_le _) (by rw [List.drop_zero];exact hv) (fun hh=>absurd hh (by decide)) h
  refine ⟨?_,hf.2⟩
  cases us with
  | nil=>exact (show inT (-1) = false by decide)
  | cons t us =>
   obtain ⟨k,hk,f⟩:=fits_of hf.1.1
   refine ⟨fits_put hk ⟨f.lt,f.n0,f.v0,f.tag.trans (by decide),fun _=>rfl,fun hh=>⟨(f.t5 hh).1,by decide⟩,f.nm,f.vx,f.c6,f.c7⟩,hf.1.2⟩
 ·have hbd:=begin_decl hs hv hp
  by_cases hD:declN s = 0
  ·have hz:declZ s = .bad 44 0:=by unfold declZ;rw [if_pos hD]
   rw [hz] at hbd
   unfold toksN at h
   rw [toksZ_bad hbd] at h
   cases h
  ·have hz:declZ s = .go (some 88) (declN s) (some ⟨7,E0,s.extract 5 (declN s - 2),0⟩):=by unfold declZ;rw [if_neg hD]
   rw [hz] at hbd
   unfold toksN at h
   rw [toksZ_told (ok_begin hs) hbd] at h
   injection h with h1 h2
   obtain ⟨r,⟨x1,x2,x3,b,e,g1,g2,g3,hb⟩,hr⟩:=decl_to hD
   have hdp:=declN_pos hD
   have hdr:Dr s (declN s - 2) = 63 :: 62 :: r:=by
    have e2:li s = (li bXML ++ (x1 ++ (x2 ++ (x3 ++ b)))) ++ 63 :: 62 :: r:=by rw [e];simp
    have hl:(li bXML ++ (x1 ++ (x2 ++ (x3 ++ b)))).length = declN s - 2:=by
     have:=congrArg List.length e2
     rw [tl_len,List.length_append,List.length_cons,List.length_cons] at this
     omega
    unfold Dr
    rw [show s.data.toList = _ from e2,← hl,List.drop_left]
   obtain ⟨i1,i2,i3⟩:=dr_at 63 hdr rfl
   obtain ⟨j1,j2,j3⟩:=dr_at 62 i3 rfl
   rw [show declN s - 2 + 1 = declN s - 1 by omega] at j1 j2
   have h4:ch s 4 = 108:=by
    have:Dr s 4 = 108 :: (x1 ++ (x2 ++ (x3 ++ (b ++ 63 :: 62 :: r)))):=by
     unfold Dr
     rw [show s.data.toList = _ from e]
     rfl
    exact (dr_at 108 this rfl).2.1
   have hvl:VX (lOf (s.extract 5 (declN s - 2))):=vx_mid (vx_from hv (q:=4) (by omega) (by omega)).1 (by omega) (Or.inr ⟨i1,by omega⟩)
   have hsz:(s.extract 5 (declN s - 2)).size = declN s - 7:=by rw [size_ext s _ _ (by omega)];omega
   have hcat:li (bXML ++ s.extract 5 (declN s - 2) ++ bSHUT) = li bXML ++ (x1 ++ (x2 ++ (x3 ++ (b ++ [63,62])))):=by
    have hx:li (s.extract 5 (declN s - 2)) = x1 ++ (x2 ++ (x3 ++ b)):=by
     unfold li
     rw [list_ext,show s.data.toList = _ from e,show (5:Nat) = (li bXML).length from rfl,List.drop_left]
     have hl:(x1 ++ (x2 ++ (x3 ++ b))).length = declN s - 2 - (li bXML).length:=by
      have:=congrArg List.length e
      simp only [List.length_append,List.length_cons,tl_len] at this
      simp only [List.length_append,tl_len]
      have h5:bXML.size = 5:=rfl
      omega
     rw [← hl]
     have:x1 ++ (x2 ++ (x3 ++ (b ++ 63 :: 62 :: r))) = (x1 ++ (x2 ++ (x3 ++ b))) ++ 63 :: 62 :: r:=by simp
     rw [this,List.take_left]
    show (bXML ++ s.extract 5 (declN s - 2) ++ bSHUT).data.toList = _
    rw [ByteArray.data_append,Array.toList_append,ByteArray.data_append,Array.toList_append,show (s.extract 5 (declN s - 2)).data.toList = _ from hx]
    simp
    rfl
   have hdc:dclB (s.extract 5 (declN s - 2)) = true:=by
    have hD2:=(decl_of (s:=bXML ++ s.extract 5 (declN s - 2) ++ bSHUT) (r:=[]) ⟨x1,x2,x3,b,hcat,g1,g2,g3,hb⟩).1
    unfold dclB
    exact decide_eq_true (by simpa using hD2)
   have hf:=fwd s hs hv (s.size + 1) 7 (declN s) (toksZ s (some 88) (declN s)).1 (by omega) hdp.2 (after hv (by omega) hdp.2 (by omega)) (fun hh=>absurd hh (by decide)) (Prod.ext rfl h2)
   subst h1
   refine ⟨⟨fits_put (it_k _) (fit7 hvl hdc),hf.1⟩,?_⟩
   have e9:flatL ((⟨7,E0,s.extract 5 (declN s - 2),0⟩ :: (toksZ s (some 88) (declN s)).1).map Tok.it) = lOf (wrB 7 E0 (s.extract 5 (declN s - 2))) ++ flatL ((toksZ s (some 88) (declN s)).1.map Tok.it):=by
    unfold flatL
    rw [List.map_cons,List.flatMap_cons]
    rfl
   rw [e9,List.length_append,lOf_length]
   have hw:=wr_size (k:=7) (nm:=E0) (vl:=s.extract 5 (declN s - 2)) (by decide)
   have hw2:(wrB 7 E0 (s.extract 5 (declN s - 2))).size ≤ (s.extract 5 (declN s - 2)).size + 7:=hw
   have hf2:=hf.2
   omega
theorem wr_ge {last:Int} {k:Nat} {nm vl:ByteArray} (f:Fits last k nm vl):nm.size ≤ (wrB k nm vl).size ∧ vl.size ≤ (wrB k nm vl).size:=by
 have he:∀ attr,vl.size ≤ (escB attr vl).size:=fun attr=>by
  unfold escB
  rw [sOf_size,← lOf_length]
  generalize lOf vl = l
  induction l with
  | nil=>exact Nat.zero_le _
  | cons c l ih =>
   unfold escL at ih ⊢
   rw [List.flatMap_cons,List.length_append,List.length_cons]
   have:=(escC_len attr c).2
   omega
 have h1:=he true
 have h2:=he false
 have hk:=f.lt
 have cases:k = 0 ∨ k = 1 ∨ k = 2 ∨ k = 3 ∨ k = 4 ∨ k = 5 ∨ k = 6 ∨ k = 7:=by omega
 rw [← tl_len (wrB k nm vl)]
 rcases cases with rfl | rfl | rfl | rfl | rfl | rfl | rfl | rfl
 ·rw [wl0,f.v0 (by decide),size_E0];simp only [List.length_cons,tl_len];omega
 ·rw [wl1];simp only [List.length_cons,List.length_append,List.length_nil,tl_len];omega
 ·rw [f.n0 (by decide),f.v0 (by decide),size_E0];omega
 ·rw [f.n0 (by decide),f.v0 (by decide),size_E0];omega
 ·rw [wl4,f.v0 (by decide),size_E0];simp only [List.length_cons,List.length_append,List.length_nil,tl_len];omega
 ·rw [wl5,f.n0 (by decide),size_E0,tl_len];omega
 ·rw [wl6,f.n0 (by decide),size_E0];simp only [List.length_cons,List.length_append,List.length_nil,tl_len];omega
 ·rw [wl7,f.n0 (by decide),size_E0];simp only [List.length_cons,List.length_append,List.length_nil,tl_len];omega
theorem chn_small:∀ {ts:List IT} {last:Int},Chn last ts → ∀ t ∈ ts,t.nm.size ≤ (flatL ts).length ∧ t.vl.size ≤ (flatL ts).length
 | [],_,_,_,h=>by cases h
 | t :: ts,last,hc,u,h=>by
  have e:flatL (t :: ts) = lOf (wrB t.k.toNat t.nm t.vl) ++ flatL ts:=by unfold flatL;rw [List.flatMap_cons]
  rw [e,List.length_append,lOf_length]
  rcases List.mem_cons.1 h with rfl | h
  ·obtain ⟨k,hk,f⟩:=fits_of hc.1
   have:=wr_ge f
   rw [hk,Int.toNat_natCast]
   omega
  ·have:=chn_small hc.2 u h
   omega
theorem toks_small {s:ByteArray} {us:List Tok} (h:toksN s = (us,none)):∀ t ∈ us.map Tok.it,t.nm.size ≤ 16777216 ∧ t.vl.size ≤ 16777216:=by
 obtain ⟨hc,hl⟩:=fwd_all h
 have hs:=(toks_ok h).1
 intro t ht
 have:=chn_small hc t ht
 omega
end Go.Proofs.YtchfphakhmifmabGreatDoor

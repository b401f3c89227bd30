import Derived.Test.YtchfphakhmifmabGreatDoorMA
import Derived.Lib.Bytealg
import Derived.Deep.DeepCutAuto
namespace Go.Proofs.YtchfphakhmifmabGreatDoor
set_option maxRecDepth 1000000
set_option maxHeartbeats 16000000
open Go.ChangeShapes Go.WideShapes Go.ChangeAt Go.RowKit
theorem nret {a b:Bool} (h:a = b):Ending.returned (.bool a) = .returned (.bool b):=by rw [h]
theorem nidx {w:World} (s:ByteArray) (i:Nat) (h:i < s.size) (k:IntKind):(Instr.index 9 (.string s) (.int k (i:Int))).run Tryz.prog w = .ok (.int .u8 (ch s i:Int)) w:=by
 rw [run_index_string w 9 s k i Tryz.underlying9,dif_pos ⟨by omega,by omega⟩]
 simp only [Int.toNat_natCast,ch_get]
def nlet (c:Nat):Bool:=(decide (65 ≤ c) && decide (c ≤ 90)) || (decide (97 ≤ c) && decide (c ≤ 122))
def ndig (c:Nat):Bool:=decide (48 ≤ c) && decide (c ≤ 57)
def nxml (c:Nat) (first:Bool):Bool:=decide (c = 95) || decide (c = 58) || ((decide (c = 45) || decide (c = 46)) && !first) || nlet c || (ndig c && !first)
def nsym (c:Nat):Bool:=nlet c || ndig c || decide (c = 95)
def xmlNameB (s:ByteArray):Bool:=decide (0 < s.size ∧ ∀ i,i < s.size → nxml (ch s i) (decide (i = 0)) = true)
def symbolB (s:ByteArray):Bool:=decide (0 < s.size ∧ s.size ≤ 64 ∧ ndig (ch s 0) = false ∧ ∀ i,i < s.size → nsym (ch s i) = true)
theorem nisDigit (c:Nat) (w:World):Calls Tryz.prog 103 #[.int .u8 (c:Int)] w fun e w'=>e = .returned (.bool (ndig c)) ∧ w' = w:=by
 unfold ndig
 by_cases h:48 ≤ c
 ·go_enter Tryz.func103,Tryz.ntmps103
  go_wp2
  go_ret
  exact ⟨nret (by simp [h];omega),rfl⟩
 ·have d:decide (48 ≤ (c:Int)) = false:=by simp;omega
  go_enter Tryz.func103,Tryz.ntmps103
  go_wp2
  go_ret
  exact ⟨nret (by simp;omega),rfl⟩
theorem nisLetter (c:Nat) (w:World):Calls Tryz.prog 102 #[.int .u8 (c:Int)] w fun e w'=>e = .returned (.bool (nlet c)) ∧ w' = w:=by
 have:(c < 65) ∨ (65 ≤ c ∧ c ≤ 90) ∨ (90 < c ∧ c < 97) ∨ (97 ≤ c ∧ c ≤ 122) ∨ 122 < c:=by omega
 rcases this with h | h | h | h | h
 ·have d1:decide (65 ≤ (c:Int)) = false:=by simp;omega
  have d3:decide (97 ≤ (c:Int)) = false:=by simp;omega
  have g:nlet c = false:=by unfold nlet;simp;omega
  rw [g]
  go_enter Tryz.func102,Tryz.ntmps102
  go_wp2
  go_ret
  exact ⟨rfl,rfl⟩
 ·have d1:decide (65 ≤ (c:Int)) = true:=by simp;omega
  have d2:decide ((c:Int) ≤ 90) = true:=by simp;omega
  have g:nlet c = true:=by unfold nlet;simp;omega
  rw [g]
  go_enter Tryz.func102,Tryz.ntmps102
  go_wp2
  go_ret
  exact ⟨rfl,rfl⟩
 ·have d1:decide (65 ≤ (c:Int)) = true:=by simp;omega
  have d2:decide ((c:Int) ≤ 90) = false:=by simp;omega
  have d3:decide (97 ≤ (c:Int)) = false:=by simp;omega
  have g:nlet c = false:=by unfold nlet;simp;omega
  rw [g]
  go_enter Tryz.func102,Tryz.ntmps102
  go_wp2
  go_ret
  exact ⟨rfl,rfl⟩
 ·have d1:decide (65 ≤ (c:Int)) = true:=by simp;omega
  have d2:decide ((c:Int) ≤ 90) = false:=by simp;omega
  have d3:decide (97 ≤ (c:Int)) = true:=by simp;omega
  have d4:decide ((c:Int) ≤ 122) = true:=by simp;omega
  have g:nlet c = true:=by unfold nlet;simp;omega
  rw [g]
  go_enter Tryz.func102,Tryz.ntmps102
  go_wp2
  go_ret
  exact ⟨rfl,rfl⟩
 ·have d1:decide (65 ≤ (c:Int)) = true:=by simp;omega
  have d2:decide ((c:Int) ≤ 90) = false:=by simp;omega
  have d3:decide (97 ≤ (c:Int)) = true:=by simp;omega
  have d4:decide ((c:Int) ≤ 122) = false:=by simp;omega
  have g:nlet c = false:=by unfold nlet;simp;omega
  rw [g]
  go_enter Tryz.func102,Tryz.ntmps102
  go_wp2
  go_ret
  exact ⟨rfl,rfl⟩
theorem ninXML (c:Nat) (f:Bool) (w:World):Calls Tryz.prog 79 #[.int .u8 (c:Int),.bool f] w fun e w'=>e = .returned (.bool (nxml c f)) ∧ w' = w:=by
 have:c = 95 ∨ c = 58 ∨ c = 45 ∨ c = 46 ∨ (¬ c = 95 ∧ ¬ c = 58 ∧ ¬ c = 45 ∧ ¬ c = 46):=by omega
 rcases this with rfl | rfl | rfl | rfl | h
 ·have g:nxml 95 f = true:=by cases f <;> decide
  rw [g]
  go_enter Tryz.func79,Tryz.ntmps79
  go_wp2
  go_ret
  exact ⟨rfl,rfl⟩
 ·have g:nxml 58 f = true:=by cases f <;> decide
  rw [g]
  go_enter Tryz.func79,Tryz.ntmps79
  go_wp2
  go_ret
  exact ⟨rfl,rfl⟩
 ·have g:nxml 45 f = !f:=by cases f <;> decide
  rw [g]
  go_enter Tryz.func79,Tryz.ntmps79
  go_wp2
  go_ret
  exact ⟨rfl,rfl⟩
 ·have g:nxml 46 f = !f:=by cases f <;> decide
  rw [g]
  go_enter Tryz.func79,Tryz.ntmps79
  go_wp2
  go_ret
  exact ⟨rfl,rfl⟩
 ·have e1:((c:Int) == 95) = false:=by simp;omega
  have e2:((c:Int) == 58) = false:=by simp;omega
  have e3:((c:Int) == 45) = false:=by simp;omega
  have e4:((c:Int) == 46) = false:=by simp;omega
  have g:nxml c f = (nlet c || (ndig c && !f)):=by unfold nxml;simp [h]
  rw [g]
  cases hl:nlet c <;> cases hd:ndig c <;> cases f <;>
  (go_enter Tryz.func79,Tryz.ntmps79
   go_wp2_with (first | (go_at_call 102;refine (nisLetter _ _).mono ?_;rintro e w1 ⟨rfl,rfl⟩) | (go_at_call 103;refine (nisDigit _ _).mono ?_;rintro e w1 ⟨rfl,rfl⟩))
   go_ret
   exact ⟨rfl,rfl⟩)
theorem nempty (s : ByteArray) : (s.toList == []) = decide (s.size = 0) := by
  have h : s.toList.length = s.size := by rw [ByteArray.toList_eq]; exact Array.length_toList
  cases hs : s.toList with
  | nil => rw [hs] at h; have : s.size = 0 := h.symm; simp [this]
  | cons a l => rw [hs] at h; have : ¬ s.size = 0 := by simp at h; omega
                simp [this]
theorem XMLName_any (s:ByteArray) (hs:s.size ≤ 9223372036854775806) (w:World):Calls Tryz.prog 54 #[.string s] w fun e w'=>e = .returned (.bool (xmlNameB s)) ∧ w' = w:=by
 go_enter Tryz.func54,Tryz.ntmps54
 go_wp2_with fail
 go_loop [6] (fun i=>∃ k:Nat,k ≤ s.size ∧ i = .int .i64 (k:Int) ∧ ∀ j,j < k → nxml (ch s j) (decide (j = 0)) = true) (fun i=>s.size - (intOf i).toNat)
 case atStart=>exact ⟨0,Nat.zero_le _,rfl,fun j hj=>absurd hj (Nat.not_lt_zero j)⟩
 case round =>
  obtain ⟨k,hk,rfl,hall⟩:=hrel
  by_cases hlt:k < s.size
  ·have d1:decide ((k:Int) < (s.size:Int)) = true:=by simp;omega
   have ix:∀ w:World,(Instr.index 9 (.string s) (.int .i64 (k:Int))).run Tryz.prog w = .ok (.int .u8 (ch s k:Int)) w:=fun w=>nidx (w:=w) s k hlt .i64
   have e0:((k:Int) == 0) = decide (k = 0):=by by_cases h:k = 0 <;> simp [h]
   cases hx:nxml (ch s k) (decide (k = 0))
   ·have g:xmlNameB s = false:=by
     unfold xmlNameB
     simp only [decide_eq_false_iff_not]
     rintro ⟨-,h⟩
     rw [h k hlt] at hx
     cases hx
    go_wp2_with (go_at_call 79;refine (ninXML _ _ _).mono ?_;rintro e w1 ⟨rfl,rfl⟩)
    go_ret
    first | exact ⟨rfl,rfl⟩ | exact ⟨nret g.symm,rfl⟩
   ·go_wp2_with (go_at_call 79;refine (ninXML _ _ _).mono ?_;rintro e w1 ⟨rfl,rfl⟩)
    go_round
    case rel=>exact ⟨k + 1,by omega,by go_num,fun j hj=>by
     by_cases h:j = k
     ·rw [h];exact hx
     ·exact hall j (by omega)⟩
    case measure=>simp [intOf];omega
  ·obtain rfl:k = s.size:=by omega
   have g:xmlNameB s = !(s.toList == []):=by
    rw [nempty]
    unfold xmlNameB
    by_cases h0:s.size = 0
    ·simp [h0]
    ·simp only [h0,decide_false,Bool.not_false,decide_eq_true_eq]
     exact ⟨by omega,hall⟩
   clear hall
   go_wp2_with fail
   go_ret
   first | exact ⟨rfl,rfl⟩ | exact ⟨nret g.symm,rfl⟩
def fstN (s:ByteArray) (c:Nat):Nat:=(lOf s).findIdx (· == c)
theorem fst_le (s:ByteArray) (c:Nat):fstN s c ≤ s.size:=by unfold fstN;rw [← lOf_length];exact List.findIdx_le_length
theorem index_list (c:UInt8):∀ l:List UInt8,Lib.indexByte l c = if (l.map UInt8.toNat).findIdx (· == c.toNat) < l.length then (((l.map UInt8.toNat).findIdx (· == c.toNat):Nat):Int) else -1
 | []=>rfl
 | b :: l=>by
  have ih:=index_list c l
  unfold Lib.indexByte
  simp only [List.map_cons,List.findIdx_cons,List.length_cons]
  by_cases h:b = c
  ·subst h
   simp
  ·have h1:(b == c) = false:=by simp [h]
   have h2:(b.toNat == c.toNat) = false:=by
    rw [beq_eq_false_iff_ne]
    exact fun e=>h (UInt8.toNat_inj.1 e)
   rw [h1,h2,if_neg (by decide)]
   simp only [cond_false]
   generalize (l.map UInt8.toNat).findIdx (· == c.toNat) = k at ih ⊢
   rw [ih]
   by_cases hk:k < l.length
   ·rw [if_pos hk,if_pos (show k + 1 < l.length + 1 by omega)]
    have:((k:Int) == -1) = false:=by rw [beq_eq_false_iff_ne];omega
    rw [this]
    simp
   ·rw [if_neg hk,if_neg (show ¬ k + 1 < l.length + 1 by omega)]
    rfl
theorem index_fst (s:ByteArray) (c:UInt8):Lib.indexByte s.data.toList c = if fstN s c.toNat < s.size then ((fstN s c.toNat:Nat):Int) else -1:=by
 rw [index_list,tl_len];rfl
theorem IndexByte_any (s:ByteArray) (c:UInt8) (w:World):Calls Tryz.prog 191 #[.string s,.int .u8 (c.toNat:Int)] w fun e w'=>e = .returned (.int .i64 (if fstN s c.toNat < s.size then ((fstN s c.toNat:Nat):Int) else -1)) ∧ w' = w:=by
 rw [← index_fst]
 go_enter Tryz.func191,Tryz.ntmps191
 go_wp2
 rw [run_callFunc_extern Tryz.func199 (by kernel_rfl) (by kernel_rfl) (by kernel_rfl) (e:=Extern.BytealgIndexByte.indexByte) (by kernel_rfl),Lib.run_indexByteString]
 simp only [Result.andThen]
 rw [Oper.upon_value]
 go_wp2
 go_ret
 exact ⟨by simp,rfl⟩
def cutV (s:ByteArray) (c:Nat):Value:=.tuple #[.string (s.extract 0 (fstN s c)),.string (if fstN s c < s.size then s.extract (fstN s c + 1) s.size else ⟨#[]⟩),.bool (decide (fstN s c < s.size))]
theorem extract_all (s:ByteArray):s.extract 0 s.size = s:=by
 apply ba_ext
 rw [list_ext,List.drop_zero,Nat.sub_zero,← tl_len,List.take_length]
theorem Index_one (s:ByteArray) (x:UInt8) (w:World):Calls Tryz.prog 179 #[.string s,.string ⟨#[x]⟩] w fun e w'=>e = .returned (.int .i64 (if fstN s x.toNat < s.size then ((fstN s x.toNat:Nat):Int) else -1)) ∧ w' = w:=by
 have hz:(ByteArray.mk #[x]).size = 1:=rfl
 have ix:∀ w:World,(Instr.index 9 (.string ⟨#[x]⟩) (.int .i64 0)).run Tryz.prog w = .ok (.int .u8 (x.toNat:Int)) w:=fun w=>idx (w:=w) ⟨#[x]⟩ 0 (show 0 < 1 by decide) .i64
 have el:(ByteArray.mk #[x]).toList = [x]:=by rw [ByteArray.toList_eq]
 cases he:([x] == s.toList)
 ·go_enter Tryz.func179,Tryz.ntmps179
  go_wp2_with (go_at_call 191;refine (IndexByte_any _ _ _).mono ?_;rintro e w1 ⟨rfl,hw1⟩;subst w1)
  all_goals
   go_ret
   exact ⟨rfl,rfl⟩
 ·obtain rfl:s = ⟨#[x]⟩:=by
   rw [beq_iff_eq,ByteArray.toList_eq] at he
   exact (ba_ext (show (ByteArray.mk #[x]).data.toList = s.data.toList from he)).symm
  have hf:fstN ⟨#[x]⟩ x.toNat = 0:=by unfold fstN lOf;simp
  rw [hf]
  go_enter Tryz.func179,Tryz.ntmps179
  go_wp2
  go_ret
  exact ⟨by simp,rfl⟩
theorem ret_cut {a b c d:ByteArray} {p q:Bool} (h1:a = b) (h2:c = d) (h3:p = q):Ending.returned (.tuple #[.string a,.string c,.bool p]) = .returned (.tuple #[.string b,.string d,.bool q]):=by rw [h1,h2,h3]
theorem Cut_lite (s:ByteArray) (x:UInt8) (w:World) (hs:s.size ≤ 9223372036854775800):Calls Tryz.prog 169 #[.string s,.string ⟨#[x]⟩] w fun e w'=>e = .returned (cutV s x.toNat) ∧ ∃ n,w' = w.drewN n:=by
 have hz:(ByteArray.mk #[x]).size = 1:=rfl
 have hle:=fst_le s x.toNat
 unfold cutV
 generalize hk:fstN s x.toNat = k at hle ⊢
 by_cases h:k < s.size
 ·rw [if_pos h]
  have CI:∀ w:World,Calls Tryz.prog 179 #[.string s,.string ⟨#[x]⟩] w fun e w'=>e = .returned (.int .i64 (k:Int)) ∧ w' = w:=fun w=>by
   have:=Index_one s x w
   rw [hk,if_pos h] at this
   exact this
  have s1:∀ w:World,(Instr.slice 9 (.string s) none (some (.int .i64 (k:Int))) none).run Tryz.prog w = .ok (.string (s.extract 0 k)) w:=fun w=>by
   rw [run_slice_string_to_if w 9 s .i64 _ Tryz.underlying9,if_pos ⟨by omega,by omega⟩,Int.toNat_natCast]
  have s2:∀ w:World,(Instr.slice 9 (.string s) (some (.int .i64 ((k:Int) + 1))) none none).run Tryz.prog w = .ok (.string (s.extract (k + 1) s.size)) w:=fun w=>slice_from s (k + 1) (by omega) w
  clear hk
  go_enter Tryz.func169,Tryz.ntmps169
  go_wp2_with (go_at_call 179;refine (CI _).mono ?_;rintro e w1 ⟨rfl,hw1⟩;subst w1)
  go_quiet (fail)
  go_wp2
  exact bodyPost_ret (v:=.tuple #[.string (s.extract 0 k),.string (s.extract (k + 1) s.size),.bool true]) (by simp [results,Tryz.results169,go_sem]) rfl ⟨ret_cut rfl rfl (by simp [h]),nq,rfl⟩
 ·rw [if_neg h]
  obtain rfl:k = s.size:=by omega
  have CI:∀ w:World,Calls Tryz.prog 179 #[.string s,.string ⟨#[x]⟩] w fun e w'=>e = .returned (.int .i64 (-1)) ∧ w' = w:=fun w=>by
   have:=Index_one s x w
   rw [hk,if_neg h] at this
   exact this
  clear hk
  go_enter Tryz.func169,Tryz.ntmps169
  go_wp2_with (go_at_call 179;refine (CI _).mono ?_;rintro e w1 ⟨rfl,hw1⟩;subst w1)
  exact bodyPost_ret (v:=.tuple #[.string s,.string ⟨#[]⟩,.bool false]) (by simp [results,Tryz.results169,go_sem]) rfl ⟨ret_cut (extract_all s).symm rfl (by simp),0,rfl⟩
theorem Cut_any (s:ByteArray) (x:UInt8) (w:World) (hs:s.size ≤ 9223372036854775800):Calls Tryz.prog 151 #[.string s,.string ⟨#[x]⟩] w fun e w'=>e = .returned (cutV s x.toNat) ∧ ∃ n,w' = w.drewN n:=by
 obtain ⟨A,B,C,hABC⟩:∃ A B C,cutV s x.toNat = .tuple #[.string A,.string B,.bool C]:=⟨_,_,_,rfl⟩
 have CC:=fun w=>Cut_lite s x w hs
 rw [hABC] at CC ⊢
 clear hABC
 go_enter Tryz.func151,Tryz.ntmps151
 go_wp2_with (go_at_call 169;refine (CC _).mono ?_;rintro e w1 ⟨rfl,n1,rfl⟩)
 exact bodyPost_ret (v:=.tuple #[.string A,.string B,.bool C]) (by simp [results,Tryz.results151,go_sem]) rfl ⟨rfl,n1,rfl⟩
theorem Cut_quiet (s:ByteArray) (x:UInt8) (w:World) (n:Nat) (hs:s.size ≤ 9223372036854775800):Calls Tryz.prog 151 #[.string s,.string ⟨#[x]⟩] (w.drewN n) fun e w'=>e = .returned (cutV s x.toNat) ∧ ∃ m,w' = w.drewN m :=
 (Cut_any s x (w.drewN n) hs).mono fun _ _ ⟨h1,m,h2⟩=>⟨h1,n + m,by rw [h2];simp [World.drewN,Nat.add_assoc]⟩
open Go.Maps
open Go.WideMaps
def kAmp:List UInt8:=[97,109,112]
def kLt:List UInt8:=[108,116]
def kGt:List UInt8:=[103,116]
def kQuot:List UInt8:=[113,117,111,116]
def kApos:List UInt8:=[97,112,111,115]
def u8D (n:Int):DataW Unit:=.lit (.int .u8 n)
def namD:DataW Unit:=(((((DataW.map []).put (.string kAmp) (u8D 38)).put (.string kLt) (u8D 60)).put (.string kGt) (u8D 62)).put (.string kQuot) (u8D 34)).put (.string kApos) (u8D 39)
theorem namD_eq:namD = .map [(.string kAmp,u8D 38),(.string kApos,u8D 39),(.string kGt,u8D 62),(.string kLt,u8D 60),(.string kQuot,u8D 34)]:=by kernel_rfl
def nameB (l:List UInt8):Option Nat:=if l = kAmp then some 38 else if l = kApos then some 39 else if l = kGt then some 62 else if l = kLt then some 60 else if l = kQuot then some 34 else none
theorem has_name (l:List UInt8):Maps.has namD (.string l) = (nameB l).isSome:=by
 rw [namD_eq]
 unfold nameB Maps.has
 simp only [List.any_cons,List.any_nil,Lit.sameKey,Bool.or_false]
 by_cases h1:l = kAmp
 ·subst h1;rfl
 ·by_cases h2:l = kApos
  ·subst h2;rfl
  ·by_cases h3:l = kGt
   ·subst h3;rfl
   ·by_cases h4:l = kLt
    ·subst h4;rfl
    ·by_cases h5:l = kQuot
     ·subst h5;rfl
     ·have ne:∀ k:List UInt8,¬ l = k → (k == l) = false:=fun k h=>by rw [beq_eq_false_iff_ne];exact fun e=>h e.symm
      rw [ne _ h1,ne _ h2,ne _ h3,ne _ h4,ne _ h5,if_neg h1,if_neg h2,if_neg h3,if_neg h4,if_neg h5]
      rfl
theorem at_name (l:List UInt8) (b:Nat) (h:nameB l = some b):namD.atKey (.string l) (.lit (.int .u8 0)) = .lit (.int .u8 (b:Int)):=by
 rw [namD_eq]
 unfold nameB at h
 unfold DataW.atKey
 by_cases h1:l = kAmp
 ·subst h1;simp at h;subst h;rfl
 ·rw [if_neg h1] at h
  by_cases h2:l = kApos
  ·subst h2;simp at h;subst h;rfl
  ·rw [if_neg h2] at h
   by_cases h3:l = kGt
   ·subst h3;simp at h;subst h;rfl
   ·rw [if_neg h3] at h
    by_cases h4:l = kLt
    ·subst h4;simp at h;subst h;rfl
    ·rw [if_neg h4] at h
     by_cases h5:l = kQuot
     ·subst h5;simp at h;subst h;rfl
     ·rw [if_neg h5] at h;cases h
def Names (w:World) (m:Nat):Prop:=w.ownsMap Tryz.prog 9 (plainElem (H:=Unit) Tryz.prog 5) m 5 namD
theorem Names.below {w w':World} {m B:Nat} (h:Names w m) (hm:m < B) (hb:Below B w w'):Names w' m:=by
 obtain ⟨es,clock,h1,h2⟩:=h
 exact ⟨es,clock,(hb.block m hm).trans h1,h2⟩
theorem strKeyed:Keyed Tryz.prog 9:=string_keyed Tryz.underlying9
theorem newEntityReader_any (s:ByteArray) (w:World):Calls Tryz.prog 182 #[.string s] w fun e w'=>∃ g m,e = .returned (.pointer (some ⟨g,0,none⟩)) ∧ w.heap.size ≤ m ∧ m < g ∧ Names w' m ∧ Rd w' g s 0 (.slice none 0 0) [] (some (.map (some m))) ∧ Below w.heap.size w w':=by
 have hmm:=@run_makeMap Tryz.prog
 have o0:=World.ownsMap_made w Tryz.prog 9 (plainElem (H:=Unit) Tryz.prog 5)
 have pe:∀ n:Int,0 ≤ n → n ≤ 255 → plainElem (H:=Unit) Tryz.prog 5 (.int .u8 n) = some (u8D n,[]):=fun n h0 h1=>plainElem_int Tryz.underlying5 (by simp [Lit.wf,IntKind.min,IntKind.max,IntKind.signed,IntKind.bits];omega)
 obtain ⟨w1,r1,o1,g1⟩:=o0.update (t:=186) strKeyed Tryz.underlying186 (by decide) (keyOf_string_mk Tryz.underlying9 (s:=⟨#[97,109,112]⟩) (by decide)) (pe 38 (by decide) (by decide))
 obtain ⟨w2,r2,o2,g2⟩:=o1.update (t:=186) strKeyed Tryz.underlying186 (by decide) (keyOf_string_mk Tryz.underlying9 (s:=⟨#[108,116]⟩) (by decide)) (pe 60 (by decide) (by decide))
 obtain ⟨w3,r3,o3,g3⟩:=o2.update (t:=186) strKeyed Tryz.underlying186 (by decide) (keyOf_string_mk Tryz.underlying9 (s:=⟨#[103,116]⟩) (by decide)) (pe 62 (by decide) (by decide))
 obtain ⟨w4,r4,o4,g4⟩:=o3.update (t:=186) strKeyed Tryz.underlying186 (by decide) (keyOf_string_mk Tryz.underlying9 (s:=⟨#[113,117,111,116]⟩) (by decide)) (pe 34 (by decide) (by decide))
 obtain ⟨w5,r5,o5,g5⟩:=o4.update (t:=186) strKeyed Tryz.underlying186 (by decide) (keyOf_string_mk Tryz.underlying9 (s:=⟨#[97,112,111,115]⟩) (by decide)) (pe 39 (by decide) (by decide))
 have e0:(w.alloc (.map #[] 0)).heap.size = w.heap.size + 1:=by simp
 have z1:=g1.size
 have z2:=g2.size
 have z3:=g3.size
 have z4:=g4.size
 have z5:=g5.size
 have bel:∀ {a b:World},w.heap.size < a.heap.size → a.grownBy b (some w.heap.size) → Below w.heap.size a b:=fun h0 h=>⟨h.os,h.tape,h.output,h.size,fun k hk=>h.block k (by omega) (by simp;omega)⟩
 have B5:Below w.heap.size w w5:=((((((bel1 w (.map #[] 0)).trans (bel (by omega) g1)).trans (bel (by omega) g2)).trans (bel (by omega) g3)).trans (bel (by omega) g4)).trans (bel (by omega) g5))
 have N5:Names w5 w.heap.size:=o5
 have lt5:w.heap.size < w5.heap.size:=by omega
 clear o0 o1 o2 o3 o4 o5 g1 g2 g3 g4 g5 pe bel e0 z1 z2 z3 z4 z5
 go_enter Tryz.func182,Tryz.ntmps182
 go_wp2
 go_ret
 refine ⟨w5.heap.size,w.heap.size,rfl,Nat.le_refl _,lt5,N5.below lt5 (bel1 _ _),⟨by simp [go_sem],by simp [go_sem],by simp [go_sem],by simp [go_sem],fun o=>by simp [go_sem],Buf.nil _ _,by simp⟩,B5.alloc B5.size _⟩
def bodyS (s:ByteArray) (a:Nat):ByteArray:=(s.extract a s.size).extract 0 (fstN (s.extract a s.size) 59)
def endB (s:ByteArray) (a:Nat):Bool:=decide (fstN (s.extract a s.size) 59 < (s.extract a s.size).size)
theorem body_any (g:Nat) (s mark:ByteArray) (a:Nat) (v:Value) (L:List Nat) (x:Option Value) (w:World) (h:Rd w g s a v L x) (ha:a + mark.size ≤ s.size) (hs:s.size ≤ 140737488355328) :
  Calls Tryz.prog 203 #[.pointer (some ⟨g,0,none⟩),.string mark] w fun r w'=>r = .returned (.tuple #[.string (bodyS s (a + mark.size)),.bool (endB s (a + mark.size))]) ∧ ∃ n,w' = w.drewN n:=by
 have c0:=h.h0
 have c1:=h.h1
 have hsl:∀ w:World,(Instr.slice 9 (.string s) (some (.int .i64 ((a:Int) + (mark.size:Int)))) none none).run Tryz.prog w = .ok (.string (s.extract (a + mark.size) s.size)) w:=fun w=>slice_from s (a + mark.size) ha w
 have ez:(s.extract (a + mark.size) s.size).size = s.size - (a + mark.size):=size_ext s _ _ (Nat.le_refl _)
 have CQ:=fun (w:World) (n:Nat)=>Cut_quiet (s.extract (a + mark.size) s.size) 59 w n (by rw [ez];omega)
 unfold bodyS endB
 unfold cutV at CQ
 rw [show (59:UInt8).toNat = 59 from rfl] at CQ
 generalize (if fstN (s.extract (a + mark.size) s.size) 59 < (s.extract (a + mark.size) s.size).size then (s.extract (a + mark.size) s.size).extract (fstN (s.extract (a + mark.size) s.size) 59 + 1) (s.extract (a + mark.size) s.size).size else ⟨#[]⟩) = C at CQ
 generalize decide (fstN (s.extract (a + mark.size) s.size) 59 < (s.extract (a + mark.size) s.size).size) = D at CQ ⊢
 generalize (s.extract (a + mark.size) s.size).extract 0 (fstN (s.extract (a + mark.size) s.size) 59) = E at CQ ⊢
 clear h
 go_enter Tryz.func203,Tryz.ntmps203
 go_wp2
 go_quiet ((go_at_call 151;exact CQ _ _))
 go_wp2
 go_ret2
 exact ⟨rfl,nq,rfl⟩
theorem eplain_any (g:Nat) (s:ByteArray) (a:Nat) (v:Value) (L:List Nat) (x:Option Value) (w:World) (h:Rd w g s a v L x) (ha:a ≤ s.size) (hl:L.length + s.size ≤ 140737488355328) :
  Calls Tryz.prog 195 #[.pointer (some ⟨g,0,none⟩)] w fun r w'=>r = .returned (.bool true) ∧ (∃ v',Rd w' g s (a + fstN (s.extract a s.size) 38) v' (L ++ lOf ((s.extract a s.size).extract 0 (fstN (s.extract a s.size) 38))) x) ∧ Below g w w':=by
 have c0:=h.h0
 have c1:=h.h1
 have hsl:=fun w=>slice_from s a ha w
 have ez:(s.extract a s.size).size = s.size - a:=size_ext s _ _ (Nat.le_refl _)
 have hle:=fst_le (s.extract a s.size) 38
 have CQ:=fun (w:World) (n:Nat)=>Cut_quiet (s.extract a s.size) 38 w n (by rw [ez];omega)
 unfold cutV at CQ
 rw [show (38:UInt8).toNat = 38 from rfl] at CQ
 generalize (if fstN (s.extract a s.size) 38 < (s.extract a s.size).size then (s.extract a s.size).extract (fstN (s.extract a s.size) 38 + 1) (s.extract a s.size).size else ⟨#[]⟩) = C at CQ
 generalize decide (fstN (s.extract a s.size) 38 < (s.extract a s.size).size) = D at CQ
 have ey:((s.extract a s.size).extract 0 (fstN (s.extract a s.size) 38)).size = fstN (s.extract a s.size) 38:=by rw [size_ext _ 0 _ hle];omega
 generalize (s.extract a s.size).extract 0 (fstN (s.extract a s.size) 38) = E at CQ ey ⊢
 generalize fstN (s.extract a s.size) 38 = k at CQ ey hle ⊢
 have hcv:=fun W=>conv_bytes E W
 go_enter Tryz.func195,Tryz.ntmps195
 go_wp2
 go_quiet ((go_at_call 151;exact CQ _ _))
 go_wp2_with (go_at_call 201;refine (take_str g s a k v L x E _ _ _ (w.drewN nq) rfl ey (h.drewN nq) (by omega) (by omega)).mono ?_;rintro e w1 ⟨rfl,⟨v',hR⟩,hb1⟩)
 go_ret
 exact ⟨rfl,⟨v',hR⟩,(bdN (Below.refl _ _) nq).trans hb1⟩
theorem Buf.lit {w:World} {B:Nat} {v:Value} {L:List Nat} (h:Buf w B v L) (M:List Nat) (n c:Nat) (hn:M.length = n) (hl:L.length + M.length ≤ 140737488355328) (hB:B ≤ w.heap.size) :
  ∃ v' w',(∀ ty,(Builtin.append_ #[59,59] ty #[v,.slice (some ⟨w.heap.size,0,none⟩) n c]).run Tryz.prog (w.alloc (.cells (M.map cU).toArray 5)) = .ok v' w') ∧ (Buf w' B v' (L ++ M) ∧ Below B w w'):=by
 subst hn
 obtain ⟨v',w',h1,h2,h3⟩:=Buf.append (w:=w.alloc (.cells (M.map cU).toArray 5)) (tx:=59) (M:=M) (h.below (bel1 w _)) (src_lit _ w.heap.size M.length c M rfl (heap_alloc_new w _)) hl (by simp;omega)
 exact ⟨v',w',h1,h2,((Below.refl B w).alloc hB _).trans h3⟩
theorem name_at (l:List UInt8) (b:Nat) (h:nameB l = some b) (c:Int) (hat:namD.atKey (.string l) (.lit (.int .u8 0)) = .lit (.int .u8 c)):c = (b:Int):=by
 rw [at_name l b h] at hat
 injection hat with h1
 injection h1 with _ h2
 exact h2.symm
theorem zero8 (w:World):(zeroValue 5).run Tryz.prog w = .ok (.int .u8 0) w:=by kernel_rfl
theorem bodyS_size (s:ByteArray) (a:Nat):(bodyS s a).size = fstN (s.extract a s.size) 59 ∧ (a ≤ s.size → a + (bodyS s a).size ≤ s.size ∧ (endB s a = true → a + (bodyS s a).size < s.size)):=by
 have h1:=fst_le (s.extract a s.size) 59
 have h2:(s.extract a s.size).size = s.size - a:=size_ext s _ _ (Nat.le_refl _)
 have h3:(bodyS s a).size = fstN (s.extract a s.size) 59:=by unfold bodyS;rw [size_ext _ 0 _ h1];omega
 refine ⟨h3,fun ha=>⟨by omega,fun he=>?_⟩⟩
 unfold endB at he
 simp at he
 omega
theorem named_no (g m:Nat) (s:ByteArray) (a:Nat) (v:Value) (L:List Nat) (w:World) (h:Rd w g s a v L (some (.map (some m)))) (hN:Names w m) (ha:a + 1 ≤ s.size) (hs:s.size ≤ 140737488355328) (hno:endB s (a + 1) = false ∨ nameB (bodyS s (a + 1)).data.toList = none) :
  Calls Tryz.prog 198 #[.pointer (some ⟨g,0,none⟩)] w fun r w'=>r = .returned (.bool false) ∧ ∃ n,w' = w.drewN n:=by
 have hb:=(bodyS_size s (a + 1)).2 ha
 have CB:=fun w h=>body_any g s ⟨#[38]⟩ a v L (some (.map (some m))) w h ha hs
 rw [show (ByteArray.mk #[38]).size = 1 from rfl] at CB
 have hkey:=keyOf_string_mk (P:=Tryz.prog) (k:=9) Tryz.underlying9 (s:=bodyS s (a + 1)) (by unfold maxLen;omega)
 have hh:=has_name (bodyS s (a + 1)).data.toList
 generalize bodyS s (a + 1) = B at CB hkey hh hno
 generalize endB s (a + 1) = E at CB hno
 have hN':∀ n,Names (w.drewN n) m:=fun n=>hN
 have c3:=h.h3
 go_enter Tryz.func198,Tryz.ntmps198
 cases E
 ·go_wp2_with (first | (go_at_call 203;refine (CB _ h).mono ?_;rintro e w1 ⟨rfl,n1,rfl⟩) | (at_lookup;refine wpList_lookup_own_ok_int _ rfl _ _ 186 rfl 9 5 .u8 strKeyed Tryz.underlying186 Tryz.underlying5 (zero8 _) m 5 _ rfl (hN' n1) _ _ rfl hkey ?_;intro c hat hwc))
  go_ret
  exact ⟨rfl,n1,rfl⟩
 ·have hnn:nameB B.data.toList = none:=by rcases hno with h | h;cases h;exact h
  rw [hnn] at hh
  have hh:Maps.has namD (.string B.data.toList) = false:=hh
  go_wp2_with (first | (go_at_call 203;refine (CB _ h).mono ?_;rintro e w1 ⟨rfl,n1,rfl⟩) | (at_lookup;refine wpList_lookup_own_ok_int _ rfl _ _ 186 rfl 9 5 .u8 strKeyed Tryz.underlying186 Tryz.underlying5 (zero8 _) m 5 _ rfl (hN' n1) _ _ rfl hkey ?_;intro c hat hwc))
  go_ret
  exact ⟨rfl,n1,rfl⟩
theorem named_yes (g m:Nat) (s:ByteArray) (a:Nat) (v:Value) (L:List Nat) (w:World) (h:Rd w g s a v L (some (.map (some m)))) (hN:Names w m) (ha:a + 1 ≤ s.size) (hs:s.size ≤ 140737488355328) (hl:L.length + 1 ≤ 140737488355328) (b:Nat) (he:endB s (a + 1) = true) (hb:nameB (bodyS s (a + 1)).data.toList = some b) :
  Calls Tryz.prog 198 #[.pointer (some ⟨g,0,none⟩)] w fun r w'=>r = .returned (.bool true) ∧ (∃ v',Rd w' g s (a + (1 + (bodyS s (a + 1)).size + 1)) v' (L ++ [b]) (some (.map (some m)))) ∧ Below g w w':=by
 have hbz:=(bodyS_size s (a + 1)).2 ha
 have CB:=fun w h=>body_any g s ⟨#[38]⟩ a v L (some (.map (some m))) w h ha hs
 rw [show (ByteArray.mk #[38]).size = 1 from rfl,he] at CB
 have hkey:=keyOf_string_mk (P:=Tryz.prog) (k:=9) Tryz.underlying9 (s:=bodyS s (a + 1)) (by unfold maxLen;omega)
 have hh:=has_name (bodyS s (a + 1)).data.toList
 have hv:Hid (∀ c:Int,namD.atKey (.string (bodyS s (a + 1)).data.toList) (.lit (.int .u8 0)) = .lit (.int .u8 c) → c = (b:Int)):=name_at _ b hb
 rw [hb] at hh
 have hh:Maps.has namD (.string (bodyS s (a + 1)).data.toList) = true:=hh
 have hz:=hbz.1
 clear hbz he hb
 generalize bodyS s (a + 1) = B at CB hkey hh hv hz ⊢
 have hN':∀ n,Names (w.drewN n) m:=fun n=>hN
 have c3:=h.h3
 have hn:Hid ((1:Int) + (B.size:Int) + 1 = ((1 + B.size + 1:Nat):Int)):=(by show (1:Int) + (B.size:Int) + 1 = ((1 + B.size + 1:Nat):Int);omega)
 go_enter Tryz.func198,Tryz.ntmps198
 go_wp2_with (first | (go_at_call 203;refine (CB _ h).mono ?_;rintro e w1 ⟨rfl,n1,rfl⟩) | (at_lookup;refine wpList_lookup_own_ok_int _ rfl _ _ 186 rfl 9 5 .u8 strKeyed Tryz.underlying186 Tryz.underlying5 (zero8 _) m 5 _ rfl (hN' n1) _ _ rfl hkey ?_;intro c hat hwc;have hcb:Hid (c = (b:Int)):=hv.out c hat;clear hat) | (go_at_call 201;rw [hn.out,hcb.out];refine (take_byte g s a (1 + B.size + 1) v L (some (.map (some m))) b _ _ (w.drewN n1) rfl (h.drewN n1) hl (by omega)).mono ?_;rintro e w2 ⟨rfl,⟨v',hR⟩,hb2⟩))
 go_ret
 exact ⟨rfl,⟨v',hR⟩,(bdN (Below.refl _ _) _).trans hb2⟩
def numF (base:Nat):List Nat → Nat → Option Nat
 | [],n=>some n
 | c :: r,n=>match worth c with
  | some d=>if d < base then numF base r (min (n * base + d) 1114112) else none
  | none=>none
def numS (base:Nat) (s:ByteArray):Option Nat:=numF base (lOf s) 0
theorem numF_cons (base c:Nat) (r:List Nat) (n:Nat):numF base (c :: r) n = match worth c with
 | some d=>if d < base then numF base r (min (n * base + d) 1114112) else none
 | none=>none:=by simp only [numF]
theorem drop_ch (s:ByteArray) (k:Nat) (h:k < s.size):(lOf s).drop k = ch s k :: (lOf s).drop (k + 1):=by
 have h2:k < (lOf s).length:=by rw [lOf_length];exact h
 rw [List.drop_eq_getElem_cons h2,ch_lOf]
 simp [List.getD,h2]
theorem numberOf_10 (t:ByteArray) (w:World) (ht:t.size ≤ 140737488355328) :
  Calls Tryz.prog 204 #[.string t,.int .i64 10] w fun e w'=>e = .returned (.tuple #[.int .i64 (((numS 10 t).getD 0:Nat):Int),.bool (decide (0 < t.size) && (numS 10 t).isSome)]) ∧ w' = w:=by
 go_enter Tryz.func204,Tryz.ntmps204
 go_wp2
 go_loop [6,12] (fun n i=>∃ k m:Nat,k ≤ t.size ∧ i = .int .i64 k ∧ n = .int .i64 (m:Int) ∧ m ≤ 1114112 ∧ numF 10 ((lOf t).drop k) m = numS 10 t) (fun _ i=>t.size - (intOf i).toNat)
 case atStart=>exact ⟨0,0,Nat.zero_le _,rfl,rfl,by decide,rfl⟩
 case round =>
  obtain ⟨k,m,hk,rfl,rfl,hm,hq⟩:=hrel
  by_cases hlt:k < t.size
  ·have ix:∀ w:World,(Instr.index 9 (.string t) (.int .i64 (k:Int))).run Tryz.prog w = .ok (.int .u8 (ch t k:Int)) w:=fun w=>idx (w:=w) t k hlt .i64
   rw [drop_ch t k hlt,numF_cons] at hq
   cases hw:worth (ch t k) with
   | none =>
    rw [hw] at hq
    dsimp only at hq
    go_wp2_with (go_at_call 206;refine (hexDigit_none _ hw _).mono ?_;rintro e w1 ⟨rfl,hw1⟩;subst w1)
    go_ret2
    rw [← hq]
    exact ⟨ret_ib rfl (by simp),rfl⟩
   | some d =>
    rw [hw] at hq
    dsimp only at hq
    have hd16:=worth_lt hw
    by_cases hd:d < 10
    ·rw [if_pos hd] at hq
     have e1:decide ((10:Int) ≤ (d:Int)) = false:=by simp;omega
     by_cases hmn:m * 10 + d ≤ 1114112
     ·rw [Nat.min_eq_left hmn] at hq
      have hmin:((m:Int) * 10 + (d:Int)) ≤ 1114112:=by omega
      go_wp2_with (go_at_call 206;refine (hexDigit_some _ d (ch_lt _ _) hw _).mono ?_;rintro e w1 ⟨rfl,hw1⟩;subst w1)
      go_round
      case rel=>exact ⟨k + 1,m * 10 + d,by omega,by go_num,by simp <;> omega,hmn,hq⟩
      case measure=>simp [intOf];omega
     ·rw [Nat.min_eq_right (by omega)] at hq
      have hmin:1114112 < ((m:Int) * 10 + (d:Int)):=by omega
      go_wp2_with (go_at_call 206;refine (hexDigit_some _ d (ch_lt _ _) hw _).mono ?_;rintro e w1 ⟨rfl,hw1⟩;subst w1)
      go_round
      case rel=>exact ⟨k + 1,1114112,by omega,by go_num,by simp <;> omega,by decide,hq⟩
      case measure=>simp [intOf];omega
    ·rw [if_neg hd] at hq
     have e1:decide ((10:Int) ≤ (d:Int)) = true:=by simp;omega
     go_wp2_with (go_at_call 206;refine (hexDigit_some _ d (ch_lt _ _) hw _).mono ?_;rintro e w1 ⟨rfl,hw1⟩;subst w1)
     go_ret2
     rw [← hq]
     exact ⟨ret_ib rfl (by simp),rfl⟩
  ·obtain rfl:k = t.size:=by omega
   have hd:(lOf t).drop t.size = []:=by rw [← lOf_length];exact List.drop_length
   rw [hd] at hq
   have hq':Hid (numS 10 t = some m):=hq.symm
   clear hq
   by_cases hz:t.size = 0
   ·have e1:(t.toList == []) = true:=by
     rw [ByteArray.toList_eq,beq_iff_eq]
     exact List.length_eq_zero_iff.1 (by rw [tl_len];exact hz)
    have et:({ data:=#[] }:ByteArray).toList = []:=by rw [ByteArray.toList_eq]
    go_wp2
    go_ret2
    rw [hq'.out]
    exact ⟨ret_ib rfl (by simp),rfl⟩
   ·have e1:(t.toList == []) = false:=by
     rw [ByteArray.toList_eq,beq_eq_false_iff_ne]
     intro e
     have:=tl_len t
     rw [e] at this
     simp at this
     omega
    have et:({ data:=#[] }:ByteArray).toList = []:=by rw [ByteArray.toList_eq]
    go_wp2
    go_ret2
    rw [hq'.out]
    exact ⟨ret_ib rfl (by simp;omega),rfl⟩
theorem numberOf_16 (t:ByteArray) (w:World) (ht:t.size ≤ 140737488355328) :
  Calls Tryz.prog 204 #[.string t,.int .i64 16] w fun e w'=>e = .returned (.tuple #[.int .i64 (((numS 16 t).getD 0:Nat):Int),.bool (decide (0 < t.size) && (numS 16 t).isSome)]) ∧ w' = w:=by
 go_enter Tryz.func204,Tryz.ntmps204
 go_wp2
 go_loop [6,12] (fun n i=>∃ k m:Nat,k ≤ t.size ∧ i = .int .i64 k ∧ n = .int .i64 (m:Int) ∧ m ≤ 1114112 ∧ numF 16 ((lOf t).drop k) m = numS 16 t) (fun _ i=>t.size - (intOf i).toNat)
 case atStart=>exact ⟨0,0,Nat.zero_le _,rfl,rfl,by decide,rfl⟩
 case round =>
  obtain ⟨k,m,hk,rfl,rfl,hm,hq⟩:=hrel
  by_cases hlt:k < t.size
  ·have ix:∀ w:World,(Instr.index 9 (.string t) (.int .i64 (k:Int))).run Tryz.prog w = .ok (.int .u8 (ch t k:Int)) w:=fun w=>idx (w:=w) t k hlt .i64
   rw [drop_ch t k hlt,numF_cons] at hq
   cases hw:worth (ch t k) with
   | none =>
    rw [hw] at hq
    dsimp only at hq
    go_wp2_with (go_at_call 206;refine (hexDigit_none _ hw _).mono ?_;rintro e w1 ⟨rfl,hw1⟩;subst w1)
    go_ret2
    rw [← hq]
    exact ⟨ret_ib rfl (by simp),rfl⟩
   | some d =>
    rw [hw] at hq
    dsimp only at hq
    have hd16:=worth_lt hw
    by_cases hd:d < 16
    ·rw [if_pos hd] at hq
     have e1:decide ((16:Int) ≤ (d:Int)) = false:=by simp;omega
     by_cases hmn:m * 16 + d ≤ 1114112
     ·rw [Nat.min_eq_left hmn] at hq
      have hmin:((m:Int) * 16 + (d:Int)) ≤ 1114112:=by omega
      go_wp2_with (go_at_call 206;refine (hexDigit_some _ d (ch_lt _ _) hw _).mono ?_;rintro e w1 ⟨rfl,hw1⟩;subst w1)
      go_round
      case rel=>exact ⟨k + 1,m * 16 + d,by omega,by go_num,by simp <;> omega,hmn,hq⟩
      case measure=>simp [intOf];omega
     ·rw [Nat.min_eq_right (by omega)] at hq
      have hmin:1114112 < ((m:Int) * 16 + (d:Int)):=by omega
      go_wp2_with (go_at_call 206;refine (hexDigit_some _ d (ch_lt _ _) hw _).mono ?_;rintro e w1 ⟨rfl,hw1⟩;subst w1)
      go_round
      case rel=>exact ⟨k + 1,1114112,by omega,by go_num,by simp <;> omega,by decide,hq⟩
      case measure=>simp [intOf];omega
    ·rw [if_neg hd] at hq
     have e1:decide ((16:Int) ≤ (d:Int)) = true:=by simp;omega
     go_wp2_with (go_at_call 206;refine (hexDigit_some _ d (ch_lt _ _) hw _).mono ?_;rintro e w1 ⟨rfl,hw1⟩;subst w1)
     go_ret2
     rw [← hq]
     exact ⟨ret_ib rfl (by simp),rfl⟩
  ·obtain rfl:k = t.size:=by omega
   have hd:(lOf t).drop t.size = []:=by rw [← lOf_length];exact List.drop_length
   rw [hd] at hq
   have hq':Hid (numS 16 t = some m):=hq.symm
   clear hq
   by_cases hz:t.size = 0
   ·have e1:(t.toList == []) = true:=by
     rw [ByteArray.toList_eq,beq_iff_eq]
     exact List.length_eq_zero_iff.1 (by rw [tl_len];exact hz)
    have et:({ data:=#[] }:ByteArray).toList = []:=by rw [ByteArray.toList_eq]
    go_wp2
    go_ret2
    rw [hq'.out]
    exact ⟨ret_ib rfl (by simp),rfl⟩
   ·have e1:(t.toList == []) = false:=by
     rw [ByteArray.toList_eq,beq_eq_false_iff_ne]
     intro e
     have:=tl_len t
     rw [e] at this
     simp at this
     omega
    have et:({ data:=#[] }:ByteArray).toList = []:=by rw [ByteArray.toList_eq]
    go_wp2
    go_ret2
    rw [hq'.out]
    exact ⟨ret_ib rfl (by simp;omega),rfl⟩
def encN (n:Nat):List Nat:=if n < 128 then [n] else if n < 2048 then [192 + n / 64,128 + n % 64] else if n < 65536 then [224 + n / 4096,128 + n / 64 % 64,128 + n % 64] else [240 + n / 262144,128 + n / 4096 % 64,128 + n / 64 % 64,128 + n % 64]
theorem buf_lit_nil (w:World) (M:List Nat) (n c:Nat) (hn:M.length = n) (hl:M.length ≤ 140737488355328) :
  ∃ v' w',(∀ ty,(Builtin.append_ #[59,59] ty #[.slice none 0 0,.slice (some ⟨w.heap.size,0,none⟩) n c]).run Tryz.prog (w.alloc (.cells (M.map cU).toArray 5)) = .ok v' w') ∧ (Buf w' w.heap.size v' M ∧ Below w.heap.size w w'):=by
 have:=(Buf.nil w w.heap.size).lit M n c hn (by simpa using hl) (Nat.le_refl _)
 simpa using this
theorem nonASCII_2 (n:Nat) (h1:128 ≤ n) (h2:n ≤ 2047) (w:World) :
  Calls Tryz.prog 207 #[.slice none 0 0,.int .i32 (n:Int)] w fun e w'=>∃ v',e = .returned v' ∧ Buf w' w.heap.size v' [192 + n / 64,128 + n % 64] ∧ Below w.heap.size w w':=by
 have d0:decide ((n:Int) ≤ 2047) = true:=by simp;omega
 have hi:(n:Int) < 2048:=by omega
 have hi0:(127:Int) < (n:Int):=by omega
 obtain ⟨v',w',hrun,hbuf,hbel⟩:=buf_lit_nil w [192 + n / 64,128 + n % 64] 2 2 rfl (by simp)
 have hrun:∀ ty,(Builtin.append_ #[59,59] ty #[.slice none 0 0,.slice (some ⟨w.heap.size,0,none⟩) 2 2]).run Tryz.prog (w.alloc (.cells #[.int .u8 (192 + (n:Int) / 64),.int .u8 (128 + (n:Int) % 64)] 5)) = .ok v' w':=hrun
 clear h1 h2
 go_enter Tryz.func207,Tryz.ntmps207
 go_wp2_with (at_builtin;refine (wpList_append_ex (by rfl) _ _ _ _ (by rfl) _ _ (by rfl) (by rfl) (fun a b=>a = v' ∧ b = w') ⟨v',w',hrun,rfl,rfl⟩ ?_);rintro _ _ ⟨rfl,rfl⟩)
 go_ret
 exact ⟨_,rfl,hbuf,hbel⟩
theorem nonASCII_3a (n:Nat) (h1:2048 ≤ n) (h2:n < 55296) (w:World) :
  Calls Tryz.prog 207 #[.slice none 0 0,.int .i32 (n:Int)] w fun e w'=>∃ v',e = .returned v' ∧ Buf w' w.heap.size v' [224 + n / 4096,128 + n / 64 % 64,128 + n % 64] ∧ Below w.heap.size w w':=by
 have d0:decide ((n:Int) ≤ 2047) = false:=by simp;omega
 have d1:decide ((n:Int) < 55296) = true:=by simp;omega
 have hi:(n:Int) < 55296:=by omega
 have hi0:(2047:Int) < (n:Int):=by omega
 obtain ⟨v',w',hrun,hbuf,hbel⟩:=buf_lit_nil w [224 + n / 4096,128 + n / 64 % 64,128 + n % 64] 3 3 rfl (by simp)
 have hrun:∀ ty,(Builtin.append_ #[59,59] ty #[.slice none 0 0,.slice (some ⟨w.heap.size,0,none⟩) 3 3]).run Tryz.prog (w.alloc (.cells #[.int .u8 (224 + (n:Int) / 4096),.int .u8 (128 + (n:Int) / 64 % 64),.int .u8 (128 + (n:Int) % 64)] 5)) = .ok v' w':=hrun
 clear h1 h2
 go_enter Tryz.func207,Tryz.ntmps207
 go_wp2_with (at_builtin;refine (wpList_append_ex (by rfl) _ _ _ _ (by rfl) _ _ (by rfl) (by rfl) (fun a b=>a = v' ∧ b = w') ⟨v',w',hrun,rfl,rfl⟩ ?_);rintro _ _ ⟨rfl,rfl⟩)
 go_ret
 exact ⟨_,rfl,hbuf,hbel⟩
theorem nonASCII_3b (n:Nat) (h1:57344 ≤ n) (h2:n ≤ 65535) (w:World) :
  Calls Tryz.prog 207 #[.slice none 0 0,.int .i32 (n:Int)] w fun e w'=>∃ v',e = .returned v' ∧ Buf w' w.heap.size v' [224 + n / 4096,128 + n / 64 % 64,128 + n % 64] ∧ Below w.heap.size w w':=by
 have d0:decide ((n:Int) ≤ 2047) = false:=by simp;omega
 have d1:decide ((n:Int) < 55296) = false:=by simp;omega
 have d2:decide (57343 < (n:Int)) = true:=by simp;omega
 have d3:decide ((n:Int) ≤ 65535) = true:=by simp;omega
 have hi:(n:Int) < 65536:=by omega
 have hi0:(57343:Int) < (n:Int):=by omega
 obtain ⟨v',w',hrun,hbuf,hbel⟩:=buf_lit_nil w [224 + n / 4096,128 + n / 64 % 64,128 + n % 64] 3 3 rfl (by simp)
 have hrun:∀ ty,(Builtin.append_ #[59,59] ty #[.slice none 0 0,.slice (some ⟨w.heap.size,0,none⟩) 3 3]).run Tryz.prog (w.alloc (.cells #[.int .u8 (224 + (n:Int) / 4096),.int .u8 (128 + (n:Int) / 64 % 64),.int .u8 (128 + (n:Int) % 64)] 5)) = .ok v' w':=hrun
 clear h1 h2
 go_enter Tryz.func207,Tryz.ntmps207
 go_wp2_with (at_builtin;refine (wpList_append_ex (by rfl) _ _ _ _ (by rfl) _ _ (by rfl) (by rfl) (fun a b=>a = v' ∧ b = w') ⟨v',w',hrun,rfl,rfl⟩ ?_);rintro _ _ ⟨rfl,rfl⟩)
 go_ret
 exact ⟨_,rfl,hbuf,hbel⟩
theorem nonASCII_4 (n:Nat) (h1:65536 ≤ n) (h2:n ≤ 1114111) (w:World) :
  Calls Tryz.prog 207 #[.slice none 0 0,.int .i32 (n:Int)] w fun e w'=>∃ v',e = .returned v' ∧ Buf w' w.heap.size v' [240 + n / 262144,128 + n / 4096 % 64,128 + n / 64 % 64,128 + n % 64] ∧ Below w.heap.size w w':=by
 have d0:decide ((n:Int) ≤ 2047) = false:=by simp;omega
 have d1:decide ((n:Int) < 55296) = false:=by simp;omega
 have d2:decide (57343 < (n:Int)) = true:=by simp;omega
 have d3:decide ((n:Int) ≤ 65535) = false:=by simp;omega
 have d4:decide (65535 < (n:Int)) = true:=by simp;omega
 have d5:decide ((n:Int) ≤ 1114111) = true:=by simp;omega
 have hi:(n:Int) < 1114112:=by omega
 have hi0:(65535:Int) < (n:Int):=by omega
 obtain ⟨v',w',hrun,hbuf,hbel⟩:=buf_lit_nil w [240 + n / 262144,128 + n / 4096 % 64,128 + n / 64 % 64,128 + n % 64] 4 4 rfl (by simp)
 have hrun:∀ ty,(Builtin.append_ #[59,59] ty #[.slice none 0 0,.slice (some ⟨w.heap.size,0,none⟩) 4 4]).run Tryz.prog (w.alloc (.cells #[.int .u8 (240 + (n:Int) / 262144),.int .u8 (128 + (n:Int) / 4096 % 64),.int .u8 (128 + (n:Int) / 64 % 64),.int .u8 (128 + (n:Int) % 64)] 5)) = .ok v' w':=hrun
 clear h1 h2
 go_enter Tryz.func207,Tryz.ntmps207
 go_wp2_with (at_builtin;refine (wpList_append_ex (by rfl) _ _ _ _ (by rfl) _ _ (by rfl) (by rfl) (fun a b=>a = v' ∧ b = w') ⟨v',w',hrun,rfl,rfl⟩ ?_);rintro _ _ ⟨rfl,rfl⟩)
 go_ret
 exact ⟨_,rfl,hbuf,hbel⟩
theorem AppendRune_any (n:Nat) (h:xmlB n = true) (w:World) :
  Calls Tryz.prog 205 #[.slice none 0 0,.int .i32 (n:Int)] w fun e w'=>∃ v',e = .returned v' ∧ Buf w' w.heap.size v' (encN n) ∧ Below w.heap.size w w':=by
 have hr:n ≤ 55295 ∨ (57344 ≤ n ∧ n ≤ 65535) ∨ (65536 ≤ n ∧ n ≤ 1114111):=by unfold xmlB at h;simp at h;omega
 unfold encN
 by_cases k1:n < 128
 ·rw [if_pos k1]
  have d1:decide ((n:Int) ≤ 127) = true:=by simp;omega
  have hi:(n:Int) < 128:=by omega
  obtain ⟨v',w',hrun,hbuf,hbel⟩:=buf_lit_nil w [n] 1 1 rfl (by simp)
  have hrun:∀ ty,(Builtin.append_ #[59,59] ty #[.slice none 0 0,.slice (some ⟨w.heap.size,0,none⟩) 1 1]).run Tryz.prog (w.alloc (.cells #[.int .u8 (n:Int)] 5)) = .ok v' w':=hrun
  clear hr h
  go_enter Tryz.func205,Tryz.ntmps205
  go_wp2_with (at_builtin;refine (wpList_append_ex (by rfl) _ _ _ _ (by rfl) _ _ (by rfl) (by rfl) (fun a b=>a = v' ∧ b = w') ⟨v',w',hrun,rfl,rfl⟩ ?_);rintro _ _ ⟨rfl,rfl⟩)
  go_ret
  exact ⟨_,rfl,hbuf,hbel⟩
 ·rw [if_neg k1]
  have d1:decide ((n:Int) ≤ 127) = false:=by simp;omega
  have hi:(n:Int) < 1114112:=by omega
  have hi0:(127:Int) < (n:Int):=by omega
  have CN:Calls Tryz.prog 207 #[.slice none 0 0,.int .i32 (n:Int)] w fun e w'=>∃ v',e = .returned v' ∧ Buf w' w.heap.size v' (if n < 2048 then [192 + n / 64,128 + n % 64] else if n < 65536 then [224 + n / 4096,128 + n / 64 % 64,128 + n % 64] else [240 + n / 262144,128 + n / 4096 % 64,128 + n / 64 % 64,128 + n % 64]) ∧ Below w.heap.size w w':=by
   by_cases k2:n < 2048
   ·rw [if_pos k2];exact nonASCII_2 n (by omega) (by omega) w
   ·rw [if_neg k2]
    by_cases k3:n < 65536
    ·rw [if_pos k3]
     by_cases k4:n < 55296
     ·exact nonASCII_3a n (by omega) k4 w
     ·exact nonASCII_3b n (by omega) (by omega) w
    ·rw [if_neg k3];exact nonASCII_4 n (by omega) (by omega) w
  generalize (if n < 2048 then [192 + n / 64,128 + n % 64] else if n < 65536 then [224 + n / 4096,128 + n / 64 % 64,128 + n % 64] else [240 + n / 262144,128 + n / 4096 % 64,128 + n / 64 % 64,128 + n % 64]) = M at CN ⊢
  clear hr h k1
  go_enter Tryz.func205,Tryz.ntmps205
  go_wp2_with (go_at_call 207;refine CN.mono ?_;rintro e w1 ⟨v1,rfl,hB1,hb1⟩)
  go_ret
  exact ⟨_,rfl,hB1,hb1⟩
theorem isXMLChar_any (n:Int) (w:World):Calls Tryz.prog 65 #[.int .i64 n] w fun e w'=>e = .returned (.bool (xmlB n)) ∧ w' = w:=by
 unfold xmlB
 by_cases h1:n < 32
 ·by_cases h2:n = 9
  ·have e1:(n == 9) = true:=by simp [h2]
   go_enter Tryz.func65,Tryz.ntmps65
   go_wp2
   go_ret
   exact ⟨ret_bool (by simp [h2]),rfl⟩
  ·have e1:(n == 9) = false:=by simp [h2]
   by_cases h3:n = 10
   ·have e2:(n == 10) = true:=by simp [h3]
    go_enter Tryz.func65,Tryz.ntmps65
    go_wp2
    go_ret
    exact ⟨ret_bool (by simp [h3]),rfl⟩
   ·have e2:(n == 10) = false:=by simp [h3]
    go_enter Tryz.func65,Tryz.ntmps65
    go_wp2
    go_ret
    refine ⟨ret_bool ?_,rfl⟩
    rw [Bool.eq_iff_iff]
    first | done | (simp <;> omega)
 ·by_cases h2:n ≤ 55295
  ·go_enter Tryz.func65,Tryz.ntmps65
   go_wp2
   go_ret
   refine ⟨ret_bool ?_,rfl⟩
   rw [Bool.eq_iff_iff]
   first | done | (simp <;> omega)
  ·by_cases h3:n ≤ 65533
   ·go_enter Tryz.func65,Tryz.ntmps65
    go_wp2
    go_ret
    refine ⟨ret_bool ?_,rfl⟩
    rw [Bool.eq_iff_iff]
    first | done | (simp <;> omega)
   ·by_cases h4:65536 ≤ n
    ·go_enter Tryz.func65,Tryz.ntmps65
     go_wp2
     go_ret
     refine ⟨ret_bool ?_,rfl⟩
     rw [Bool.eq_iff_iff]
     first | done | (simp <;> omega)
    ·have d4:decide (65536 ≤ n) = false:=by simp;omega
     go_enter Tryz.func65,Tryz.ntmps65
     go_wp2
     go_ret
     refine ⟨ret_bool ?_,rfl⟩
     rw [Bool.eq_iff_iff]
     first | done | (simp <;> omega)
theorem fault_step (ok:Int → Bool) (s:ByteArray) (a:Nat) (h:a < s.size):faultF ok s (s.size + 1) a =
  if (seqN (s.extract a s.size)).2 = 0 then (20,a) else if ok (seqN (s.extract a s.size)).1 then faultF ok s (s.size + 1) (a + (seqN (s.extract a s.size)).2) else (21,a):=by
 rw [faultF,if_neg (by omega)]
 dsimp only
 split
 ·rfl
 ·split
  ·exact faultF_more ok s _ _ (by omega) _ (by omega)
  ·rfl
theorem fault_end (ok:Int → Bool) (s:ByteArray):faultF ok s (s.size + 1) s.size = (0,0):=by
 rw [faultF,if_pos (Nat.le_refl _)]
theorem firstFault_xml (s:ByteArray) (w:World) (hs:s.size ≤ 9223372036854775807) :
  Calls Tryz.prog 64 #[.string s,.func (Fn.func 65) #[] #[]] w fun e w'=>e = .returned (.tuple #[.int .i64 ((faultN xmlB s).1:Nat),.int .i64 ((faultN xmlB s).2:Nat)]) ∧ Below w.heap.size w w':=by
 have hfe:=fault_end xmlB s
 go_enter Tryz.func64,Tryz.ntmps64
 go_wp2
 go_loopw [6] (fun i wr=>∃ a:Nat,a ≤ s.size ∧ i = .int .i64 a ∧ faultF xmlB s (s.size + 1) a = faultN xmlB s ∧ Below w.heap.size w wr) (fun i _=>s.size - (intOf i).toNat)
 case atStart=>exact ⟨0,Nat.zero_le _,rfl,rfl,Below.refl _ _⟩
 case round =>
  obtain ⟨a,ha,rfl,hfa,HB⟩:=hrel
  by_cases hlt:a < s.size
  ·have hst:=fault_step xmlB s a hlt
   rw [hfa] at hst
   have hsl:∀ w:World,(Instr.slice 9 (.string s) (some (.int .i64 a)) none none).run Tryz.prog w = .ok (.string (s.extract a s.size)) w:=fun w=>by
    rw [run_slice_string_from_if w 9 s .i64 a Tryz.underlying9,if_pos ⟨by omega,by omega⟩,Int.toNat_natCast]
   have hez:(s.extract a s.size).size = s.size - a:=size_ext s a s.size (Nat.le_refl _)
   have hle:=seqN_size_le (s.extract a s.size)
   rw [hez] at hle
   by_cases hz:(seqN (s.extract a s.size)).2 = 0
   ·rw [if_pos hz] at hst
    have hz':(((seqN (s.extract a s.size)).2:Int) == 0) = true:=by simp [hz]
    go_wp2_with (go_at_call 84;refine (sequence_any _ _ (by rw [hez];omega)).mono ?_;rintro e w1 ⟨rfl,hb1⟩)
    go_ret2
    rw [hst]
    exact ⟨rfl,HB.trans (hb1.mono HB.size)⟩
   ·rw [if_neg hz] at hst
    have hz':(((seqN (s.extract a s.size)).2:Int) == 0) = false:=by simp;omega
    cases hok:xmlB ((seqN (s.extract a s.size)).1:Int)
    ·rw [hok,if_neg (by decide)] at hst
     go_wp2_with (first | (go_at_call 84;refine (sequence_any _ _ (by rw [hez];omega)).mono ?_;rintro e w1 ⟨rfl,hb1⟩) | (go_at_call 65;refine (isXMLChar_any _ _).mono ?_;rintro e w2 ⟨rfl,rfl⟩))
     go_ret2
     rw [hst]
     exact ⟨rfl,HB.trans (hb1.mono HB.size)⟩
    ·rw [hok,if_pos rfl] at hst
     go_wp2_with (first | (go_at_call 84;refine (sequence_any _ _ (by rw [hez];omega)).mono ?_;rintro e w1 ⟨rfl,hb1⟩) | (go_at_call 65;refine (isXMLChar_any _ _).mono ?_;rintro e w2 ⟨rfl,rfl⟩))
     go_roundw
     case rel=>exact ⟨a + (seqN (s.extract a s.size)).2,by omega,by go_num,hst.symm,HB.trans (hb1.mono HB.size)⟩
     case measure=>simp [intOf];omega
  ·obtain rfl:a = s.size:=by omega
   rw [hfe] at hfa
   go_wp2
   go_ret2
   rw [← hfa]
   exact ⟨rfl,HB⟩
theorem Chars_all (s:ByteArray) (w:World) (hs:s.size ≤ 9223372036854775807) :
  Calls Tryz.prog 39 #[.string s] w fun e w'=>e = .returned (.tuple #[.int .i64 ((faultN xmlB s).1:Nat),.int .i64 ((faultN xmlB s).2:Nat)]) ∧ Below w.heap.size w w':=by
 go_enter Tryz.func39,Tryz.ntmps39
 go_wp2_with (go_at_call 64;refine (firstFault_xml _ _ hs).mono ?_;rintro e w1 ⟨rfl,hb1⟩)
 go_ret2
 exact ⟨rfl,hb1⟩
theorem Buf.some {w:World} {B:Nat} {v:Value} {L:List Nat} (h:Buf w B v L) (hne:L ≠ []):∃ g c,v = .slice (some ⟨g,0,none⟩) L.length c ∧ B ≤ g ∧ (∀ j u,(L.map cU)[j]? = Option.some u → w.cell? ((⟨g,0,none⟩:Addr).add j) = Option.some u):=by
 rcases h.2 with ⟨_,h0⟩ | ⟨g,cap,cur,rfl,hb,_⟩
 ·exact absurd (List.length_eq_zero_iff.1 h0) hne
 ·exact ⟨g,cap,rfl,hb,World.ownsRow.cells h (g:=g) rfl⟩
theorem encN_ne (n:Nat):encN n ≠ [] ∧ (encN n).length ≤ 4:=by
 unfold encN
 split
 ·exact ⟨by simp,by simp⟩
 ·split
  ·exact ⟨by simp,by simp⟩
  ·split
   ·exact ⟨by simp,by simp⟩
   ·exact ⟨by simp,by simp⟩
theorem far_ne {g1 g:Nat} (h:g < g1):∀ j,(((⟨g1,0,none⟩:Addr).add j).block = g) = False:=by
 intro j
 have hadd:(⟨g1,0,none⟩:Addr).add j = ⟨g1,j,none⟩:=by unfold Addr.add;split <;> simp_all
 rw [hadd]
 simp
 omega
theorem numeric10_no (g:Nat) (s:ByteArray) (a:Nat) (v:Value) (L:List Nat) (x:Option Value) (w:World) (h:Rd w g s a v L x) (ha:a + 2 ≤ s.size) (hs:s.size ≤ 140737488355328)
  (hno:endB s (a + 2) = false ∨ (decide (0 < (bodyS s (a + 2)).size) && (numS 10 (bodyS s (a + 2))).isSome) = false ∨ xmlB (((numS 10 (bodyS s (a + 2))).getD 0:Nat):Int) = false) :
  Calls Tryz.prog 202 #[.pointer (some ⟨g,0,none⟩),.string ⟨#[38,35]⟩,.int .i64 10] w fun r w'=>r = .returned (.bool false) ∧ ∃ n,w' = w.drewN n:=by
 have hbz:=(bodyS_size s (a + 2)).2 ha
 have CB:=fun w h=>body_any g s ⟨#[38,35]⟩ a v L x w h ha hs
 rw [show (ByteArray.mk #[38,35]).size = 2 from rfl] at CB
 have CN:=fun w=>numberOf_10 (bodyS s (a + 2)) w (by omega)
 clear hbz
 generalize (decide (0 < (bodyS s (a + 2)).size) && (numS 10 (bodyS s (a + 2))).isSome) = S at CN hno
 generalize (numS 10 (bodyS s (a + 2))).getD 0 = n at CN hno
 generalize bodyS s (a + 2) = D at CB CN
 generalize endB s (a + 2) = E at CB hno
 cases E
 ·go_enter Tryz.func202,Tryz.ntmps202
  go_wp2_with (first | (go_at_call 203;refine (CB _ h).mono ?_;rintro e w1 ⟨rfl,n1,rfl⟩) | (go_at_call 204;refine (CN _).mono ?_;rintro e w2 ⟨rfl,hw2⟩;subst w2) | (go_at_call 65;refine (isXMLChar_any _ _).mono ?_;rintro e w3 ⟨rfl,hw3⟩;subst w3))
  go_ret
  exact ⟨rfl,n1,rfl⟩
 ·cases S
  ·go_enter Tryz.func202,Tryz.ntmps202
   go_wp2_with (first | (go_at_call 203;refine (CB _ h).mono ?_;rintro e w1 ⟨rfl,n1,rfl⟩) | (go_at_call 204;refine (CN _).mono ?_;rintro e w2 ⟨rfl,hw2⟩;subst w2) | (go_at_call 65;refine (isXMLChar_any _ _).mono ?_;rintro e w3 ⟨rfl,hw3⟩;subst w3))
   go_ret
   exact ⟨rfl,n1,rfl⟩
  ·have hx:xmlB (n:Int) = false:=by rcases hno with h | h | h;cases h;cases h;exact h
   go_enter Tryz.func202,Tryz.ntmps202
   go_wp2_with (first | (go_at_call 203;refine (CB _ h).mono ?_;rintro e w1 ⟨rfl,n1,rfl⟩) | (go_at_call 204;refine (CN _).mono ?_;rintro e w2 ⟨rfl,hw2⟩;subst w2) | (go_at_call 65;refine (isXMLChar_any _ _).mono ?_;rintro e w3 ⟨rfl,hw3⟩;subst w3))
   go_ret
   exact ⟨rfl,n1,rfl⟩
theorem numeric10_yes (g:Nat) (s:ByteArray) (a:Nat) (v:Value) (L:List Nat) (x:Option Value) (w:World) (h:Rd w g s a v L x) (ha:a + 2 ≤ s.size) (hs:s.size ≤ 140737488355000) (hl:L.length + 4 ≤ 140737488355328) (n:Nat)
  (he:endB s (a + 2) = true) (hz:0 < (bodyS s (a + 2)).size) (hn:numS 10 (bodyS s (a + 2)) = some n) (hx:xmlB (n:Int) = true) :
  Calls Tryz.prog 202 #[.pointer (some ⟨g,0,none⟩),.string ⟨#[38,35]⟩,.int .i64 10] w fun r w'=>r = .returned (.bool true) ∧ (∃ v',Rd w' g s (a + (2 + (bodyS s (a + 2)).size + 1)) v' (L ++ encN n) x) ∧ Below g w w':=by
 have hbz:=(bodyS_size s (a + 2)).2 ha
 have CB:=fun w h=>body_any g s ⟨#[38,35]⟩ a v L x w h ha (by omega)
 rw [show (ByteArray.mk #[38,35]).size = 2 from rfl] at CB
 have CN:=fun w=>numberOf_10 (bodyS s (a + 2)) w (by omega)
 rw [he] at CB
 rw [hn,decide_eq_true hz] at CN
 have CN:∀ w:World,Calls Tryz.prog 204 #[.string (bodyS s (a + 2)),.int .i64 10] w fun e w'=>e = .returned (.tuple #[.int .i64 (n:Int),.bool true]) ∧ w' = w:=CN
 have hzz:=hbz.1
 clear hbz hz hn he
 generalize bodyS s (a + 2) = D at CB CN hzz ⊢
 have hr:(n:Int) < 1114112:=by unfold xmlB at hx;simp at hx;omega
 have hn2:Hid ((2:Int) + (D.size:Int) + 1 = ((2 + D.size + 1:Nat):Int)):=(by show (2:Int) + (D.size:Int) + 1 = ((2 + D.size + 1:Nat):Int);omega)
 have hel:=encN_ne n
 have hw32:Hid (IntKind.i32.wrap (n:Int) = (n:Int)):=(by show IntKind.i32.wrap (n:Int) = (n:Int);simp [IntKind.wrap,IntKind.bits,IntKind.signed];omega)
 have hwa:IntKind.i64.wrap ((2:Int) + (D.size:Int)) = (2:Int) + (D.size:Int):=by rw [IntKind.wrap_i64];omega
 have hw64:Hid (IntKind.i64.wrap ((2:Int) + (D.size:Int) + 1) = ((2 + D.size + 1:Nat):Int)):=(by show IntKind.i64.wrap ((2:Int) + (D.size:Int) + 1) = ((2 + D.size + 1:Nat):Int);rw [IntKind.wrap_i64];omega)
 go_enter Tryz.func202,Tryz.ntmps202
 go_wp2_with (first | (go_at_call 203;refine (CB _ h).mono ?_;rintro e w1 ⟨rfl,n1,rfl⟩) | (go_at_call 204;refine (CN _).mono ?_;rintro e w2 ⟨rfl,hw2⟩;subst w2) | (go_at_call 65;refine (isXMLChar_any _ _).mono ?_;rintro e w3 ⟨rfl,hw3⟩;subst w3))
 go_region_with (first | (go_at_call 205;rw [hw32.out];refine (AppendRune_any n hx _).mono ?_;rintro e w4 ⟨v1,rfl,hB1,hb1⟩;obtain ⟨g1,c1,rfl,hg1,hcl⟩:=hB1.some hel.1) | (go_at_call 201;rw [hw64.out];refine (take_any g s a (2 + D.size + 1) v L (encN n) x ⟨g1,0,none⟩ c1 w4 ((h.drewN (n1 + 1)).below hb1) hcl (far_ne (Nat.lt_of_lt_of_le h.lt hg1)) (by omega) (by omega)).mono ?_;rintro e w5 ⟨rfl,⟨v',hR⟩,hb5,hz5⟩))
 all_goals
  go_wp2_with fail
  go_ret
  exact ⟨rfl,⟨v',hR⟩,(bdN (Below.refl _ _) (n1 + 1)).trans ((hb1.mono (Nat.le_of_lt h.lt)).trans hb5)⟩
theorem numeric16_no (g:Nat) (s:ByteArray) (a:Nat) (v:Value) (L:List Nat) (x:Option Value) (w:World) (h:Rd w g s a v L x) (ha:a + 3 ≤ s.size) (hs:s.size ≤ 140737488355328)
  (hno:endB s (a + 3) = false ∨ (decide (0 < (bodyS s (a + 3)).size) && (numS 16 (bodyS s (a + 3))).isSome) = false ∨ xmlB (((numS 16 (bodyS s (a + 3))).getD 0:Nat):Int) = false) :
  Calls Tryz.prog 202 #[.pointer (some ⟨g,0,none⟩),.string ⟨#[38,35,120]⟩,.int .i64 16] w fun r w'=>r = .returned (.bool false) ∧ ∃ n,w' = w.drewN n:=by
 have hbz:=(bodyS_size s (a + 3)).2 ha
 have CB:=fun w h=>body_any g s ⟨#[38,35,120]⟩ a v L x w h ha hs
 rw [show (ByteArray.mk #[38,35,120]).size = 3 from rfl] at CB
 have CN:=fun w=>numberOf_16 (bodyS s (a + 3)) w (by omega)
 clear hbz
 generalize (decide (0 < (bodyS s (a + 3)).size) && (numS 16 (bodyS s (a + 3))).isSome) = S at CN hno
 generalize (numS 16 (bodyS s (a + 3))).getD 0 = n at CN hno
 generalize bodyS s (a + 3) = D at CB CN
 generalize endB s (a + 3) = E at CB hno
 cases E
 ·go_enter Tryz.func202,Tryz.ntmps202
  go_wp2_with (first | (go_at_call 203;refine (CB _ h).mono ?_;rintro e w1 ⟨rfl,n1,rfl⟩) | (go_at_call 204;refine (CN _).mono ?_;rintro e w2 ⟨rfl,hw2⟩;subst w2) | (go_at_call 65;refine (isXMLChar_any _ _).mono ?_;rintro e w3 ⟨rfl,hw3⟩;subst w3))
  go_ret
  exact ⟨rfl,n1,rfl⟩
 ·cases S
  ·go_enter Tryz.func202,Tryz.ntmps202
   go_wp2_with (first | (go_at_call 203;refine (CB _ h).mono ?_;rintro e w1 ⟨rfl,n1,rfl⟩) | (go_at_call 204;refine (CN _).mono ?_;rintro e w2 ⟨rfl,hw2⟩;subst w2) | (go_at_call 65;refine (isXMLChar_any _ _).mono ?_;rintro e w3 ⟨rfl,hw3⟩;subst w3))
   go_ret
   exact ⟨rfl,n1,rfl⟩
  ·have hx:xmlB (n:Int) = false:=by rcases hno with h | h | h;cases h;cases h;exact h
   go_enter Tryz.func202,Tryz.ntmps202
   go_wp2_with (first | (go_at_call 203;refine (CB _ h).mono ?_;rintro e w1 ⟨rfl,n1,rfl⟩) | (go_at_call 204;refine (CN _).mono ?_;rintro e w2 ⟨rfl,hw2⟩;subst w2) | (go_at_call 65;refine (isXMLChar_any _ _).mono ?_;rintro e w3 ⟨rfl,hw3⟩;subst w3))
   go_ret
   exact ⟨rfl,n1,rfl⟩
theorem numeric16_yes (g:Nat) (s:ByteArray) (a:Nat) (v:Value) (L:List Nat) (x:Option Value) (w:World) (h:Rd w g s a v L x) (ha:a + 3 ≤ s.size) (hs:s.size ≤ 140737488355000) (hl:L.length + 4 ≤ 140737488355328) (n:Nat)
  (he:endB s (a + 3) = true) (hz:0 < (bodyS s (a + 3)).size) (hn:numS 16 (bodyS s (a + 3)) = some n) (hx:xmlB (n:Int) = true) :
  Calls Tryz.prog 202 #[.pointer (some ⟨g,0,none⟩),.string ⟨#[38,35,120]⟩,.int .i64 16] w fun r w'=>r = .returned (.bool true) ∧ (∃ v',Rd w' g s (a + (3 + (bodyS s (a + 3)).size + 1)) v' (L ++ encN n) x) ∧ Below g w w':=by
 have hbz:=(bodyS_size s (a + 3)).2 ha
 have CB:=fun w h=>body_any g s ⟨#[38,35,120]⟩ a v L x w h ha (by omega)
 rw [show (ByteArray.mk #[38,35,120]).size = 3 from rfl] at CB
 have CN:=fun w=>numberOf_16 (bodyS s (a + 3)) w (by omega)
 rw [he] at CB
 rw [hn,decide_eq_true hz] at CN
 have CN:∀ w:World,Calls Tryz.prog 204 #[.string (bodyS s (a + 3)),.int .i64 16] w fun e w'=>e = .returned (.tuple #[.int .i64 (n:Int),.bool true]) ∧ w' = w:=CN
 have hzz:=hbz.1
 clear hbz hz hn he
 generalize bodyS s (a + 3) = D at CB CN hzz ⊢
 have hr:(n:Int) < 1114112:=by unfold xmlB at hx;simp at hx;omega
 have hn2:Hid ((3:Int) + (D.size:Int) + 1 = ((3 + D.size + 1:Nat):Int)):=(by show (3:Int) + (D.size:Int) + 1 = ((3 + D.size + 1:Nat):Int);omega)
 have hel:=encN_ne n
 have hw32:Hid (IntKind.i32.wrap (n:Int) = (n:Int)):=(by show IntKind.i32.wrap (n:Int) = (n:Int);simp [IntKind.wrap,IntKind.bits,IntKind.signed];omega)
 have hwa:IntKind.i64.wrap ((3:Int) + (D.size:Int)) = (3:Int) + (D.size:Int):=by rw [IntKind.wrap_i64];omega
 have hw64:Hid (IntKind.i64.wrap ((3:Int) + (D.size:Int) + 1) = ((3 + D.size + 1:Nat):Int)):=(by show IntKind.i64.wrap ((3:Int) + (D.size:Int) + 1) = ((3 + D.size + 1:Nat):Int);rw [IntKind.wrap_i64];omega)
 go_enter Tryz.func202,Tryz.ntmps202
 go_wp2_with (first | (go_at_call 203;refine (CB _ h).mono ?_;rintro e w1 ⟨rfl,n1,rfl⟩) | (go_at_call 204;refine (CN _).mono ?_;rintro e w2 ⟨rfl,hw2⟩;subst w2) | (go_at_call 65;refine (isXMLChar_any _ _).mono ?_;rintro e w3 ⟨rfl,hw3⟩;subst w3))
 go_region_with (first | (go_at_call 205;rw [hw32.out];refine (AppendRune_any n hx _).mono ?_;rintro e w4 ⟨v1,rfl,hB1,hb1⟩;obtain ⟨g1,c1,rfl,hg1,hcl⟩:=hB1.some hel.1) | (go_at_call 201;rw [hw64.out];refine (take_any g s a (3 + D.size + 1) v L (encN n) x ⟨g1,0,none⟩ c1 w4 ((h.drewN (n1 + 1)).below hb1) hcl (far_ne (Nat.lt_of_lt_of_le h.lt hg1)) (by omega) (by omega)).mono ?_;rintro e w5 ⟨rfl,⟨v',hR⟩,hb5,hz5⟩))
 all_goals
  go_wp2_with fail
  go_ret
  exact ⟨rfl,⟨v',hR⟩,(bdN (Below.refl _ _) (n1 + 1)).trans ((hb1.mono (Nat.le_of_lt h.lt)).trans hb5)⟩
theorem decimal_no (g:Nat) (s:ByteArray) (a:Nat) (v:Value) (L:List Nat) (x:Option Value) (w:World) (h:Rd w g s a v L x) (ha:a + 2 ≤ s.size) (hs:s.size ≤ 140737488355328)
  (hno:endB s (a + 2) = false ∨ (decide (0 < (bodyS s (a + 2)).size) && (numS 10 (bodyS s (a + 2))).isSome) = false ∨ xmlB (((numS 10 (bodyS s (a + 2))).getD 0:Nat):Int) = false) :
  Calls Tryz.prog 197 #[.pointer (some ⟨g,0,none⟩)] w fun r w'=>r = .returned (.bool false) ∧ ∃ n,w' = w.drewN n:=by
 go_enter Tryz.func197,Tryz.ntmps197
 go_wp2_with (go_at_call 202;refine (numeric10_no g s a v L x _ h ha hs hno).mono ?_;rintro e w1 ⟨rfl,n1,rfl⟩)
 go_ret
 exact ⟨rfl,n1,rfl⟩
theorem hexadecimal_no (g:Nat) (s:ByteArray) (a:Nat) (v:Value) (L:List Nat) (x:Option Value) (w:World) (h:Rd w g s a v L x) (ha:a + 3 ≤ s.size) (hs:s.size ≤ 140737488355328)
  (hno:endB s (a + 3) = false ∨ (decide (0 < (bodyS s (a + 3)).size) && (numS 16 (bodyS s (a + 3))).isSome) = false ∨ xmlB (((numS 16 (bodyS s (a + 3))).getD 0:Nat):Int) = false) :
  Calls Tryz.prog 196 #[.pointer (some ⟨g,0,none⟩)] w fun r w'=>r = .returned (.bool false) ∧ ∃ n,w' = w.drewN n:=by
 go_enter Tryz.func196,Tryz.ntmps196
 go_wp2_with (go_at_call 202;refine (numeric16_no g s a v L x _ h ha hs hno).mono ?_;rintro e w1 ⟨rfl,n1,rfl⟩)
 go_ret
 exact ⟨rfl,n1,rfl⟩
theorem decimal_yes (g:Nat) (s:ByteArray) (a:Nat) (v:Value) (L:List Nat) (x:Option Value) (w:World) (h:Rd w g s a v L x) (ha:a + 2 ≤ s.size) (hs:s.size ≤ 140737488355000) (hl:L.length + 4 ≤ 140737488355328) (n:Nat)
  (he:endB s (a + 2) = true) (hz:0 < (bodyS s (a + 2)).size) (hn:numS 10 (bodyS s (a + 2)) = some n) (hx:xmlB (n:Int) = true) :
  Calls Tryz.prog 197 #[.pointer (some ⟨g,0,none⟩)] w fun r w'=>r = .returned (.bool true) ∧ (∃ v',Rd w' g s (a + (2 + (bodyS s (a + 2)).size + 1)) v' (L ++ encN n) x) ∧ Below g w w':=by
 go_enter Tryz.func197,Tryz.ntmps197
 go_wp2_with (go_at_call 202;refine (numeric10_yes g s a v L x _ h ha hs hl n he hz hn hx).mono ?_;rintro e w1 ⟨rfl,hR,hb1⟩)
 go_ret
 exact ⟨rfl,hR,hb1⟩
theorem hexadecimal_yes (g:Nat) (s:ByteArray) (a:Nat) (v:Value) (L:List Nat) (x:Option Value) (w:World) (h:Rd w g s a v L x) (ha:a + 3 ≤ s.size) (hs:s.size ≤ 140737488355000) (hl:L.length + 4 ≤ 140737488355328) (n:Nat)
  (he:endB s (a + 3) = true) (hz:0 < (bodyS s (a + 3)).size) (hn:numS 16 (bodyS s (a + 3)) = some n) (hx:xmlB (n:Int) = true) :
  Calls Tryz.prog 196 #[.pointer (some ⟨g,0,none⟩)] w fun r w'=>r = .returned (.bool true) ∧ (∃ v',Rd w' g s (a + (3 + (bodyS s (a + 3)).size + 1)) v' (L ++ encN n) x) ∧ Below g w w':=by
 go_enter Tryz.func196,Tryz.ntmps196
 go_wp2_with (go_at_call 202;refine (numeric16_yes g s a v L x _ h ha hs hl n he hz hn hx).mono ?_;rintro e w1 ⟨rfl,hR,hb1⟩)
 go_ret
 exact ⟨rfl,hR,hb1⟩
def eitemK (s:ByteArray) (a:Nat):Nat:=if ¬ ch s a = 38 then 195 else if a + 2 < s.size ∧ ch s (a + 1) = 35 ∧ ch s (a + 2) = 120 then 196 else if a + 1 < s.size ∧ ch s (a + 1) = 35 then 197 else 198
theorem eitem_any (g:Nat) (s:ByteArray) (a:Nat) (v:Value) (L:List Nat) (x:Option Value) (w:World) (h:Rd w g s a v L x) (ha:a < s.size) :
  Calls Tryz.prog 183 #[.pointer (some ⟨g,0,none⟩)] w fun r w'=>r = .returned (.func (Fn.func (eitemK s a)) #[.pointer (some ⟨g,0,none⟩)] #[]) ∧ ∃ n,w' = w.drewN n:=by
 have hmf:∀ (fn:Fn) (first cap:Array Value) (w:World),(Instr.makeFunc fn first cap).run Tryz.prog w = .ok (.func fn first cap) w:=fun _ _ _ _=>rfl
 have c0:=h.h0
 have c1:=h.h1
 have hsl:=fun w=>slice_from s a (by omega) w
 have ez:(s.extract a s.size).size = s.size - a:=size_ext s a _ (Nat.le_refl _)
 have ce:ch (s.extract a s.size) 0 = ch s a:=by rw [ch_ext s a s.size 0 (by omega)];rfl
 have ix:∀ w:World,(Instr.index 9 (.string (s.extract a s.size)) (.int .i64 0)).run Tryz.prog w = .ok (.int .u8 (ch s a:Int)) w:=fun w=>by
  rw [← ce];exact idx (w:=w) (s.extract a s.size) 0 (by omega) .i64
 have p1:=pre3 s a 38 35 120
 have p2:=pre2 s a 38 35
 rw [show (38:UInt8).toNat = 38 from rfl,show (35:UInt8).toNat = 35 from rfl,show (120:UInt8).toNat = 120 from rfl] at p1
 rw [show (38:UInt8).toNat = 38 from rfl,show (35:UInt8).toNat = 35 from rfl] at p2
 clear h ez ce
 by_cases k0:ch s a = 38
 ·have q0:((ch s a:Int) == 38) = true:=by simp;omega
  have q0':((ch s a:Int) != 38) = false:=by simp;omega
  by_cases k1:a + 2 < s.size ∧ ch s (a + 1) = 35 ∧ ch s (a + 2) = 120
  ·have q1:prefB (s.extract a s.size) { data:=#[38,35,120] } = true:=by rw [p1];simp [k0,k1]
   have e:eitemK s a = 196:=by unfold eitemK;rw [if_neg (by simp [k0]),if_pos k1]
   rw [e]
   clear p1 p2 k0
   go_enter Tryz.func183,Tryz.ntmps183
   go_wp2
   go_quiet (fail)
   go_wp2_with (go_at_call 86;refine (HasPrefix_any _ _ _).mono ?_;rintro e w1 ⟨rfl,hw1⟩;subst w1)
   go_ret
   exact ⟨rfl,nq,rfl⟩
  ·have q1:prefB (s.extract a s.size) { data:=#[38,35,120] } = false:=by
    rw [p1,Bool.eq_false_iff]
    simp
    intro h1 _ h2 h3
    exact k1 ⟨h1,h2,h3⟩
   by_cases k2:a + 1 < s.size ∧ ch s (a + 1) = 35
   ·have q2:prefB (s.extract a s.size) { data:=#[38,35] } = true:=by rw [p2];simp [k0,k2]
    have e:eitemK s a = 197:=by unfold eitemK;rw [if_neg (by simp [k0]),if_neg k1,if_pos k2]
    rw [e]
    clear p1 p2 k0
    go_enter Tryz.func183,Tryz.ntmps183
    go_wp2
    go_quiet (fail)
    go_wp2_with (go_at_call 86;refine (HasPrefix_any _ _ _).mono ?_;rintro e w1 ⟨rfl,hw1⟩;subst w1)
    go_ret
    exact ⟨rfl,nq,rfl⟩
   ·have q2:prefB (s.extract a s.size) { data:=#[38,35] } = false:=by
     rw [p2,Bool.eq_false_iff]
     simp
     intro h1 _ h2
     exact k2 ⟨h1,h2⟩
    have e:eitemK s a = 198:=by unfold eitemK;rw [if_neg (by simp [k0]),if_neg k1,if_neg k2]
    rw [e]
    clear p1 p2 k0
    go_enter Tryz.func183,Tryz.ntmps183
    go_wp2
    go_quiet (fail)
    go_wp2_with (go_at_call 86;refine (HasPrefix_any _ _ _).mono ?_;rintro e w1 ⟨rfl,hw1⟩;subst w1)
    go_ret
    exact ⟨rfl,nq,rfl⟩
 ·have q0:((ch s a:Int) == 38) = false:=by simp;omega
  have q0':((ch s a:Int) != 38) = true:=by simp;omega
  have e:eitemK s a = 195:=by unfold eitemK;rw [if_pos k0]
  rw [e]
  clear p1 p2
  go_enter Tryz.func183,Tryz.ntmps183
  go_wp2
  go_quiet (fail)
  go_wp2_with (go_at_call 86;refine (HasPrefix_any _ _ _).mono ?_;rintro e w1 ⟨rfl,hw1⟩;subst w1)
  go_ret
  exact ⟨rfl,nq,rfl⟩
def plc (w:World) (g:Nat):Nat:=match w.cell? ⟨g,1,none⟩ with
 | some (.int _ n)=>n.toNat
 | _=>0
theorem Rd.plc {w:World} {g:Nat} {s:ByteArray} {a:Nat} {v:Value} {L:List Nat} {x:Option Value} (h:Rd w g s a v L x):plc w g = a:=by
 unfold Go.Proofs.YtchfphakhmifmabGreatDoor.plc
 rw [h.h1]
 simp
theorem ret_tri {a b:ByteArray} {c d e f:Int} (h1:a = b) (h2:c = d) (h3:e = f):Ending.returned (.tuple #[.string a,.int .i64 c,.int .i64 e]) = .returned (.tuple #[.string b,.int .i64 d,.int .i64 f]):=by rw [h1,h2,h3]
def numAt (base:Nat) (s:ByteArray) (a k:Nat):Option (List Nat × Nat) :=
 if endB s (a + k) = true ∧ 0 < (bodyS s (a + k)).size then
  match numS base (bodyS s (a + k)) with
  | some n=>if xmlB (n:Int) = true then some (encN n,a + (k + (bodyS s (a + k)).size + 1)) else none
  | none=>none
 else none
def entAt (s:ByteArray) (a:Nat):Option (List Nat × Nat) :=
 if a + 2 < s.size ∧ ch s (a + 1) = 35 ∧ ch s (a + 2) = 120 then numAt 16 s a 3
 else if a + 1 < s.size ∧ ch s (a + 1) = 35 then numAt 10 s a 2
 else if endB s (a + 1) = true then
  match nameB (bodyS s (a + 1)).data.toList with
  | some b=>some ([b],a + (1 + (bodyS s (a + 1)).size + 1))
  | none=>none
 else none
theorem numAt_bd {base:Nat} {s:ByteArray} {a k:Nat} (hk:2 ≤ k) (ha:a + k ≤ s.size) {M:List Nat} {b:Nat} (h:numAt base s a k = some (M,b)):a < b ∧ b ≤ s.size ∧ M.length ≤ b - a:=by
 unfold numAt at h
 split at h
 ·rename_i hc
  split at h
  ·rename_i n hn
   split at h
   ·injection h with h
    injection h with h1 h2
    have:=((bodyS_size s (a + k)).2 ha).2 hc.1
    have hl:=(encN_ne n).2
    rw [← h1,← h2]
    omega
   ·cases h
  ·cases h
 ·cases h
theorem entAt_bd {s:ByteArray} {a:Nat} (ha:a < s.size) {M:List Nat} {b:Nat} (h:entAt s a = some (M,b)):a < b ∧ b ≤ s.size ∧ M.length ≤ b - a:=by
 unfold entAt at h
 split at h
 ·exact numAt_bd (by decide) (by omega) h
 ·split at h
  ·exact numAt_bd (by decide) (by omega) h
  ·split at h
   ·rename_i he
    split at h
    ·injection h with h
     injection h with h1 h2
     have:=((bodyS_size s (a + 1)).2 (by omega)).2 he
     rw [← h1,← h2]
     simp
     omega
    ·cases h
   ·cases h
def uneF (s:ByteArray):Nat → Nat → List Nat → List Nat × Nat × Nat
 | 0,_,acc=>(acc,0,0)
 | n + 1,a,acc=>if s.size ≤ a then (acc,0,0) else if ch s a = 38 then
   (match entAt s a with
   | some (M,b)=>uneF s n b (acc ++ M)
   | none=>([],22,a))
  else uneF s n (a + 1) (acc ++ [ch s a])
def uneN (s:ByteArray):List Nat × Nat × Nat:=uneF s (s.size + 1) 0 []
theorem uneF_more (s:ByteArray):∀ n a acc,s.size < n + a → ∀ m,s.size < m + a → uneF s n a acc = uneF s m a acc
 | 0,a,acc,hn,0,hm=>rfl
 | 0,a,acc,hn,m + 1,hm=>by simp only [uneF];rw [if_pos (by omega)]
 | n + 1,a,acc,hn,0,hm=>by simp only [uneF];rw [if_pos (by omega)]
 | n + 1,a,acc,hn,m + 1,hm=>by
  simp only [uneF]
  split
  ·rfl
  ·split
   ·split
    ·rename_i M b he
     have:=entAt_bd (by omega) he
     exact uneF_more s n _ _ (by omega) m (by omega)
    ·rfl
   ·exact uneF_more s n _ _ (by omega) m (by omega)
theorem une_end (s:ByteArray) (a:Nat) (acc:List Nat) (h:s.size ≤ a):uneF s (s.size + 1) a acc = (acc,0,0):=by rw [uneF,if_pos h]
theorem une_step (s:ByteArray) (a:Nat) (acc:List Nat) (ha:a < s.size):uneF s (s.size + 1) a acc = if ch s a = 38 then
   (match entAt s a with
   | some (M,b)=>uneF s (s.size + 1) b (acc ++ M)
   | none=>([],22,a))
  else uneF s (s.size + 1) (a + 1) (acc ++ [ch s a]):=by
 rw [uneF,if_neg (by omega)]
 split
 ·split
  ·rename_i M b he
   have:=entAt_bd ha he
   exact uneF_more s _ _ _ (by omega) _ (by omega)
  ·rfl
 ·exact uneF_more s _ _ _ (by omega) _ (by omega)
theorem fst_before (s:ByteArray) (c j:Nat) (h:j < fstN s c):¬ ch s j = c:=by
 unfold fstN at h
 have h2:=List.not_of_lt_findIdx h
 have hl:j < (lOf s).length:=Nat.lt_of_lt_of_le h List.findIdx_le_length
 rw [ch_lOf]
 simp [List.getD,hl]
 simpa using h2
theorem fst_at (s:ByteArray) (c:Nat) (h:fstN s c < s.size):ch s (fstN s c) = c:=by
 unfold fstN at h ⊢
 rw [← lOf_length] at h
 have:=List.findIdx_getElem (w:=h)
 rw [ch_lOf]
 simp [List.getD,h]
 simpa using this
theorem une_run (s:ByteArray) (a:Nat) (acc:List Nat):∀ k,a + k ≤ s.size → (∀ j,j < k → ¬ ch s (a + j) = 38) → uneF s (s.size + 1) a acc = uneF s (s.size + 1) (a + k) (acc ++ ((lOf s).drop a).take k)
 | 0,_,_=>by simp
 | k + 1,hk,hj=>by
  rw [une_run s a acc k (by omega) (fun j h=>hj j (by omega)),une_step s (a + k) _ (by omega),if_neg (hj k (by omega))]
  have:acc ++ ((lOf s).drop a).take k ++ [ch s (a + k)] = acc ++ ((lOf s).drop a).take (k + 1):=by
   rw [List.append_assoc]
   congr 1
   rw [List.take_add_one]
   congr 1
   have h2:a + k < (lOf s).length:=by rw [lOf_length];omega
   rw [List.getElem?_drop,ch_lOf]
   simp [List.getD,h2]
  rw [this,Nat.add_assoc]
theorem une_plain (s:ByteArray) (a:Nat) (acc:List Nat) (ha:a ≤ s.size):uneF s (s.size + 1) a acc = uneF s (s.size + 1) (a + fstN (s.extract a s.size) 38) (acc ++ lOf ((s.extract a s.size).extract 0 (fstN (s.extract a s.size) 38))):=by
 have h1:=fst_le (s.extract a s.size) 38
 have h2:(s.extract a s.size).size = s.size - a:=size_ext s _ _ (Nat.le_refl _)
 have e:lOf ((s.extract a s.size).extract 0 (fstN (s.extract a s.size) 38)) = ((lOf s).drop a).take (fstN (s.extract a s.size) 38):=by
  rw [lOf_extract,lOf_extract,List.drop_zero,Nat.sub_zero,List.take_take,Nat.min_eq_left (by omega)]
 rw [e]
 exact une_run s a acc (fstN (s.extract a s.size) 38) (by omega) (fun j hj=>by
  have:=fst_before _ _ j hj
  rwa [ch_ext s a s.size j (by omega)] at this)
theorem numAt_cases (base:Nat) (s:ByteArray) (a k:Nat) :
  (∃ n,endB s (a + k) = true ∧ 0 < (bodyS s (a + k)).size ∧ numS base (bodyS s (a + k)) = some n ∧ xmlB (n:Int) = true ∧ numAt base s a k = some (encN n,a + (k + (bodyS s (a + k)).size + 1))) ∨
  (numAt base s a k = none ∧ (endB s (a + k) = false ∨ (decide (0 < (bodyS s (a + k)).size) && (numS base (bodyS s (a + k))).isSome) = false ∨ xmlB (((numS base (bodyS s (a + k))).getD 0:Nat):Int) = false)):=by
 unfold numAt
 by_cases hc:endB s (a + k) = true ∧ 0 < (bodyS s (a + k)).size
 ·rw [if_pos hc]
  cases hn:numS base (bodyS s (a + k)) with
  | none=>exact Or.inr ⟨rfl,Or.inr (Or.inl (by simp))⟩
  | some n =>
   cases hx:xmlB (n:Int)
   ·exact Or.inr ⟨by simp [hx],Or.inr (Or.inr hx)⟩
   ·exact Or.inl ⟨n,hc.1,hc.2,rfl,hx,by simp [hx]⟩
 ·rw [if_neg hc]
  refine Or.inr ⟨rfl,?_⟩
  cases he:endB s (a + k)
  ·exact Or.inl rfl
  ·refine Or.inr (Or.inl ?_)
   have:¬ 0 < (bodyS s (a + k)).size:=fun h=>hc ⟨he,h⟩
   rw [decide_eq_false this]
   rfl
theorem Unescape_any (s:ByteArray) (w:World) (hs:s.size ≤ 35184372088832) :
  Calls Tryz.prog 168 #[.string s] w fun e w'=>e = .returned (.tuple #[.string (sOf (uneN s).1),.int .i64 ((uneN s).2.1:Nat),.int .i64 ((uneN s).2.2:Nat)]) ∧ Below w.heap.size w w':=by
 have hsz:s.size ≤ 140737488355000:=by omega
 have hsz2:s.size ≤ 140737488355328:=by omega
 go_enter Tryz.func168,Tryz.ntmps168
 go_wp2_with (go_at_call 182;refine (newEntityReader_any s _).mono ?_;rintro e w0 ⟨g,m,rfl,hwm,hmg,N0,R0,B0⟩)
 have hwg:w.heap.size ≤ g:=by omega
 go_loopw [6] (fun _ wr=>∃ a v L,a ≤ s.size ∧ L.length ≤ a ∧ Rd wr g s a v L (some (.map (some m))) ∧ Names wr m ∧ uneF s (s.size + 1) a L = uneN s ∧ Below w.heap.size w wr) (fun _ wr=>s.size - plc wr g)
 case atStart=>exact ⟨0,_,[],Nat.zero_le _,Nat.zero_le _,R0,N0,rfl,B0⟩
 case round =>
  obtain ⟨a,v,L,ha,hL,R,hN,hq,HB⟩:=hrel
  have c0:=R.h0
  have c1:=R.h1
  have c2:=R.h2
  have hpl:=R.plc
  by_cases hlt:a < s.size
  ·rw [une_step s a L hlt] at hq
   by_cases k0:ch s a = 38
   ·rw [if_pos k0] at hq
    by_cases k1:a + 2 < s.size ∧ ch s (a + 1) = 35 ∧ ch s (a + 2) = 120
    ·have hk:eitemK s a = 196:=by unfold eitemK;rw [if_neg (by simp [k0]),if_pos k1]
     have hen:entAt s a = numAt 16 s a 3:=by unfold entAt;rw [if_pos k1]
     rw [hen] at hq
     clear hen k0
     rcases numAt_cases 16 s a 3 with ⟨n,hn1,hn2,hn3,hn4,hn5⟩ | ⟨hn5,hno⟩
     ·rw [hn5] at hq
      dsimp only at hq
      have hbd:=numAt_bd (by decide) (by omega) hn5
      have hl4:=(encN_ne n).2
      have hn1:Hid (endB s (a + 3) = true):=hn1
      have hn3:Hid (numS 16 (bodyS s (a + 3)) = some n):=hn3
      clear hn5
      go_wp2
      go_quiet (fail)
      go_wp2_with (first | (go_at_call 183;refine (eitem_any g s a v L (some (.map (some m))) _ (R.drewN _) hlt).mono ?_;rintro e w1 ⟨rfl,n1,rfl⟩) | (go_at_call 196;refine (hexadecimal_yes g s a v L (some (.map (some m))) _ (R.drewN _) (by omega) hsz (by omega) n hn1.out hn2 hn3.out hn4).mono ?_;rintro r w2 ⟨rfl,⟨v',hR⟩,hb2⟩))
      go_roundw
      case rel=>exact ⟨a + (3 + (bodyS s (a + 3)).size + 1),v',L ++ encN n,by omega,by rw [List.length_append];omega,hR,hN.below hmg ((bdN (Below.refl _ _) _).trans hb2),hq,HB.trans ((bdN (Below.refl _ _) _).trans (hb2.mono hwg))⟩
      case measure=>rw [hR.plc,hpl];omega
     ·rw [hn5] at hq
      dsimp only at hq
      have hno:Hid (endB s (a + 3) = false ∨ (decide (0 < (bodyS s (a + 3)).size) && (numS 16 (bodyS s (a + 3))).isSome) = false ∨ xmlB (((numS 16 (bodyS s (a + 3))).getD 0:Nat):Int) = false):=hno
      clear hn5
      go_wp2
      go_quiet (fail)
      go_wp2_with (first | (go_at_call 183;refine (eitem_any g s a v L (some (.map (some m))) _ (R.drewN _) hlt).mono ?_;rintro e w1 ⟨rfl,n1,rfl⟩) | (go_at_call 196;refine (hexadecimal_no g s a v L (some (.map (some m))) _ (R.drewN _) (by omega) hsz2 hno.out).mono ?_;rintro r w2 ⟨rfl,n2,rfl⟩))
      have c1':∀ n,(wr.drewN n).cell? ⟨g,1,none⟩ = some (.int .i64 (a:Int)):=fun n=>c1
      go_quiet (fail)
      go_wp2
      rw [← hq]
      exact bodyPost_ret (v:=.tuple #[.string ⟨#[]⟩,.int .i64 22,.int .i64 (a:Int)]) (by simp [results,Tryz.results168,go_sem]) rfl ⟨ret_tri rfl rfl rfl,bdN (bdN HB _) _⟩
    ·by_cases k2:a + 1 < s.size ∧ ch s (a + 1) = 35
     ·have hk:eitemK s a = 197:=by unfold eitemK;rw [if_neg (by simp [k0]),if_neg k1,if_pos k2]
      have hen:entAt s a = numAt 10 s a 2:=by unfold entAt;rw [if_neg k1,if_pos k2]
      rw [hen] at hq
      clear hen k0
      rcases numAt_cases 10 s a 2 with ⟨n,hn1,hn2,hn3,hn4,hn5⟩ | ⟨hn5,hno⟩
      ·rw [hn5] at hq
       dsimp only at hq
       have hbd:=numAt_bd (by decide) (by omega) hn5
       have hl4:=(encN_ne n).2
       have hn1:Hid (endB s (a + 2) = true):=hn1
       have hn3:Hid (numS 10 (bodyS s (a + 2)) = some n):=hn3
       clear hn5
       go_wp2
       go_quiet (fail)
       go_wp2_with (first | (go_at_call 183;refine (eitem_any g s a v L (some (.map (some m))) _ (R.drewN _) hlt).mono ?_;rintro e w1 ⟨rfl,n1,rfl⟩) | (go_at_call 197;refine (decimal_yes g s a v L (some (.map (some m))) _ (R.drewN _) (by omega) hsz (by omega) n hn1.out hn2 hn3.out hn4).mono ?_;rintro r w2 ⟨rfl,⟨v',hR⟩,hb2⟩))
       go_roundw
       case rel=>exact ⟨a + (2 + (bodyS s (a + 2)).size + 1),v',L ++ encN n,by omega,by rw [List.length_append];omega,hR,hN.below hmg ((bdN (Below.refl _ _) _).trans hb2),hq,HB.trans ((bdN (Below.refl _ _) _).trans (hb2.mono hwg))⟩
       case measure=>rw [hR.plc,hpl];omega
      ·rw [hn5] at hq
       dsimp only at hq
       have hno:Hid (endB s (a + 2) = false ∨ (decide (0 < (bodyS s (a + 2)).size) && (numS 10 (bodyS s (a + 2))).isSome) = false ∨ xmlB (((numS 10 (bodyS s (a + 2))).getD 0:Nat):Int) = false):=hno
       clear hn5
       go_wp2
       go_quiet (fail)
       go_wp2_with (first | (go_at_call 183;refine (eitem_any g s a v L (some (.map (some m))) _ (R.drewN _) hlt).mono ?_;rintro e w1 ⟨rfl,n1,rfl⟩) | (go_at_call 197;refine (decimal_no g s a v L (some (.map (some m))) _ (R.drewN _) (by omega) hsz2 hno.out).mono ?_;rintro r w2 ⟨rfl,n2,rfl⟩))
       have c1':∀ n,(wr.drewN n).cell? ⟨g,1,none⟩ = some (.int .i64 (a:Int)):=fun n=>c1
       go_quiet (fail)
       go_wp2
       rw [← hq]
       exact bodyPost_ret (v:=.tuple #[.string ⟨#[]⟩,.int .i64 22,.int .i64 (a:Int)]) (by simp [results,Tryz.results168,go_sem]) rfl ⟨ret_tri rfl rfl rfl,bdN (bdN HB _) _⟩
     ·have hk:eitemK s a = 198:=by unfold eitemK;rw [if_neg (by simp [k0]),if_neg k1,if_neg k2]
      have hen:entAt s a = if endB s (a + 1) = true then (match nameB (bodyS s (a + 1)).data.toList with | some b=>some ([b],a + (1 + (bodyS s (a + 1)).size + 1)) | none=>none) else none:=by unfold entAt;rw [if_neg k1,if_neg k2]
      have hcs:(∃ b,endB s (a + 1) = true ∧ nameB (bodyS s (a + 1)).data.toList = some b ∧ entAt s a = some ([b],a + (1 + (bodyS s (a + 1)).size + 1))) ∨ (entAt s a = none ∧ (endB s (a + 1) = false ∨ nameB (bodyS s (a + 1)).data.toList = none)):=by
       rw [hen]
       cases h1:endB s (a + 1)
       ·exact Or.inr ⟨rfl,Or.inl rfl⟩
       ·cases h2:nameB (bodyS s (a + 1)).data.toList with
        | none=>exact Or.inr ⟨rfl,Or.inr rfl⟩
        | some b=>exact Or.inl ⟨b,rfl,rfl,rfl⟩
      clear hen k0
      rcases hcs with ⟨b,hn1,hn2,hn5⟩ | ⟨hn5,hno⟩
      ·rw [hn5] at hq
       dsimp only at hq
       have hbd:=entAt_bd hlt hn5
       have hn1:Hid (endB s (a + 1) = true):=hn1
       have hn2:Hid (nameB (bodyS s (a + 1)).data.toList = some b):=hn2
       clear hn5
       go_wp2
       go_quiet (fail)
       go_wp2_with (first | (go_at_call 183;refine (eitem_any g s a v L (some (.map (some m))) _ (R.drewN _) hlt).mono ?_;rintro e w1 ⟨rfl,n1,rfl⟩) | (go_at_call 198;refine (named_yes g m s a v L _ (R.drewN _) (hN.below hmg (bdN (Below.refl _ _) _)) (by omega) hsz2 (by omega) b hn1.out hn2.out).mono ?_;rintro r w2 ⟨rfl,⟨v',hR⟩,hb2⟩))
       go_roundw
       case rel=>exact ⟨a + (1 + (bodyS s (a + 1)).size + 1),v',L ++ [b],by omega,by simp;omega,hR,hN.below hmg ((bdN (Below.refl _ _) _).trans hb2),hq,HB.trans ((bdN (Below.refl _ _) _).trans (hb2.mono hwg))⟩
       case measure=>rw [hR.plc,hpl];omega
      ·rw [hn5] at hq
       dsimp only at hq
       have hno:Hid (endB s (a + 1) = false ∨ nameB (bodyS s (a + 1)).data.toList = none):=hno
       clear hn5
       go_wp2
       go_quiet (fail)
       go_wp2_with (first | (go_at_call 183;refine (eitem_any g s a v L (some (.map (some m))) _ (R.drewN _) hlt).mono ?_;rintro e w1 ⟨rfl,n1,rfl⟩) | (go_at_call 198;refine (named_no g m s a v L _ (R.drewN _) (hN.below hmg (bdN (Below.refl _ _) _)) (by omega) hsz2 hno.out).mono ?_;rintro r w2 ⟨rfl,n2,rfl⟩))
       have c1':∀ n,(wr.drewN n).cell? ⟨g,1,none⟩ = some (.int .i64 (a:Int)):=fun n=>c1
       go_quiet (fail)
       go_wp2
       rw [← hq]
       exact bodyPost_ret (v:=.tuple #[.string ⟨#[]⟩,.int .i64 22,.int .i64 (a:Int)]) (by simp [results,Tryz.results168,go_sem]) rfl ⟨ret_tri rfl rfl rfl,bdN (bdN HB _) _⟩
   ·rw [if_neg k0] at hq
    have hk:eitemK s a = 195:=by unfold eitemK;rw [if_pos k0]
    have hq:uneF s (s.size + 1) a L = uneN s:=by rw [une_step s a L hlt,if_neg k0];exact hq
    rw [une_plain s a L ha] at hq
    have h1:=fst_le (s.extract a s.size) 38
    have h2:(s.extract a s.size).size = s.size - a:=size_ext s _ _ (Nat.le_refl _)
    have h3:0 < fstN (s.extract a s.size) 38:=by
     rcases Nat.eq_zero_or_pos (fstN (s.extract a s.size) 38) with h | h
     ·exfalso
      have:=fst_at (s.extract a s.size) 38 (by omega)
      rw [h,ch_ext s a s.size 0 (by omega)] at this
      exact k0 this
     ·exact h
    have h4:(lOf ((s.extract a s.size).extract 0 (fstN (s.extract a s.size) 38))).length = fstN (s.extract a s.size) 38:=by rw [lOf_length,size_ext _ 0 _ h1];omega
    rw [h2] at h1
    have hfin:Hid (0 < fstN (s.extract a s.size) 38 ∧ fstN (s.extract a s.size) 38 ≤ s.size - a ∧ (lOf ((s.extract a s.size).extract 0 (fstN (s.extract a s.size) 38))).length = fstN (s.extract a s.size) 38):=⟨h3,h1,h4⟩
    clear h1 h2 h3 h4
    go_wp2
    go_quiet (fail)
    go_wp2_with (first | (go_at_call 183;refine (eitem_any g s a v L (some (.map (some m))) _ (R.drewN _) hlt).mono ?_;rintro e w1 ⟨rfl,n1,rfl⟩) | (go_at_call 195;refine (eplain_any g s a v L (some (.map (some m))) _ (R.drewN _) ha (by omega)).mono ?_;rintro r w2 ⟨rfl,⟨v',hR⟩,hb2⟩))
    obtain ⟨f1,f2,f3⟩:=hfin.out
    go_roundw
    case rel=>exact ⟨a + fstN (s.extract a s.size) 38,v',L ++ lOf ((s.extract a s.size).extract 0 (fstN (s.extract a s.size) 38)),by omega,by rw [List.length_append,f3];omega,hR,hN.below hmg ((bdN (Below.refl _ _) _).trans hb2),hq,HB.trans ((bdN (Below.refl _ _) _).trans (hb2.mono hwg))⟩
    case measure=>rw [hR.plc,hpl];omega
  ·rw [une_end s a L (by omega)] at hq
   have hcv:∀ n,(convert 59 9 v).run Tryz.prog (wr.drewN n) = .ok (.string (sOf L)) (wr.drewN n):=fun n=>(R.drewN n).buf.conv
   have c2':∀ n,(wr.drewN n).cell? ⟨g,2,none⟩ = some v:=fun n=>c2
   go_wp2
   go_quiet (fail)
   go_wp2
   rw [← hq]
   exact bodyPost_ret (v:=.tuple #[.string (sOf L),.int .i64 0,.int .i64 0]) (by simp [results,Tryz.results168,go_sem]) rfl ⟨ret_tri rfl rfl rfl,bdN HB _⟩
end Go.Proofs.YtchfphakhmifmabGreatDoor

import Derived.Test.YtchfphakhmifmabGreatDoorMB
namespace Go.Proofs.YtchfphakhmifmabGreatDoor
set_option maxRecDepth 1000000
set_option maxHeartbeats 16000000
open Go.ChangeShapes Go.WideShapes Go.ChangeAt Go.RowKit
def entB (c:Nat):ByteArray:=if c = 38 then ⟨#[38,97,109,112,59]⟩ else if c = 60 then ⟨#[38,108,116,59]⟩ else if c = 62 then ⟨#[38,103,116,59]⟩ else if c = 13 then ⟨#[38,35,49,51,59]⟩ else ⟨#[]⟩
def attB (c:Nat):ByteArray:=if c = 34 then ⟨#[38,113,117,111,116,59]⟩ else if c = 9 then ⟨#[38,35,57,59]⟩ else if c = 10 then ⟨#[38,35,49,48,59]⟩ else ⟨#[]⟩
theorem entityOf_any (c:Nat) (w:World):Calls Tryz.prog 136 #[.int .u8 (c:Int)] w fun e w'=>e = .returned (.string (entB c)) ∧ w' = w:=by
 unfold entB
 by_cases k1:c = 38
 ·subst k1
  go_enter Tryz.func136,Tryz.ntmps136
  go_wp2
  go_ret
  exact ⟨rfl,rfl⟩
 ·have q1:((c:Int) == 38) = false:=by simp;omega
  rw [if_neg k1]
  by_cases k2:c = 60
  ·subst k2
   go_enter Tryz.func136,Tryz.ntmps136
   go_wp2
   go_ret
   exact ⟨rfl,rfl⟩
  ·have q2:((c:Int) == 60) = false:=by simp;omega
   rw [if_neg k2]
   by_cases k3:c = 62
   ·subst k3
    go_enter Tryz.func136,Tryz.ntmps136
    go_wp2
    go_ret
    exact ⟨rfl,rfl⟩
   ·have q3:((c:Int) == 62) = false:=by simp;omega
    rw [if_neg k3]
    by_cases k4:c = 13
    ·subst k4
     go_enter Tryz.func136,Tryz.ntmps136
     go_wp2
     go_ret
     exact ⟨rfl,rfl⟩
    ·have q4:((c:Int) == 13) = false:=by simp;omega
     rw [if_neg k4]
     go_enter Tryz.func136,Tryz.ntmps136
     go_wp2
     go_ret
     exact ⟨rfl,rfl⟩
theorem attrEntityOf_any (c:Nat) (w:World):Calls Tryz.prog 137 #[.int .u8 (c:Int)] w fun e w'=>e = .returned (.string (attB c)) ∧ w' = w:=by
 unfold attB
 by_cases k1:c = 34
 ·subst k1
  go_enter Tryz.func137,Tryz.ntmps137
  go_wp2
  go_ret
  exact ⟨rfl,rfl⟩
 ·have q1:((c:Int) == 34) = false:=by simp;omega
  rw [if_neg k1]
  by_cases k2:c = 9
  ·subst k2
   go_enter Tryz.func137,Tryz.ntmps137
   go_wp2
   go_ret
   exact ⟨rfl,rfl⟩
  ·have q2:((c:Int) == 9) = false:=by simp;omega
   rw [if_neg k2]
   by_cases k3:c = 10
   ·subst k3
    go_enter Tryz.func137,Tryz.ntmps137
    go_wp2
    go_ret
    exact ⟨rfl,rfl⟩
   ·have q3:((c:Int) == 10) = false:=by simp;omega
    rw [if_neg k3]
    go_enter Tryz.func137,Tryz.ntmps137
    go_wp2
    go_ret
    exact ⟨rfl,rfl⟩
theorem Buf.str {w:World} {B:Nat} {v:Value} {L:List Nat} (h:Buf w B v L) (t:ByteArray) (hl:L.length + t.size ≤ 140737488355328) (hB:B ≤ w.heap.size) :
  ∃ v' w',(∀ ty,(Builtin.append_ #[59,9] ty #[v,.string t]).run Tryz.prog w = .ok v' w') ∧ (Buf w' B v' (L ++ lOf t) ∧ Below B w w'):=by
 have S:=Src.ofString (P:=Tryz.prog) (tx:=9) w Tryz.underlying9 t
 rw [byteCells_lOf,← lOf_length] at S
 exact h.append S (by rw [lOf_length];exact hl) hB
def escC (attr:Bool) (c:Nat):List Nat:=if 0 < (entB c).size then lOf (entB c) else if attr = true ∧ 0 < (attB c).size then lOf (attB c) else [c]
theorem entB_size (c:Nat):(entB c).size ≤ 6 ∧ (attB c).size ≤ 6:=by
 constructor
 ·unfold entB
  split;decide
  split;decide
  split;decide
  split <;> decide
 ·unfold attB
  split;decide
  split;decide
  split <;> decide
theorem escC_len (attr:Bool) (c:Nat):(escC attr c).length ≤ 6 ∧ 1 ≤ (escC attr c).length:=by
 have:=entB_size c
 unfold escC
 split
 ·rw [lOf_length];omega
 ·split
  ·rw [lOf_length];omega
  ·simp
def escL (attr:Bool) (l:List Nat):List Nat:=l.flatMap (escC attr)
theorem escL_len (attr:Bool) (l:List Nat):(escL attr l).length ≤ 6 * l.length:=by
 unfold escL
 induction l with
 | nil=>exact Nat.le_refl _
 | cons a r ih =>
  have:=escC_len attr a
  rw [List.flatMap_cons,List.length_append,List.length_cons]
  omega
theorem lst_ne (s:ByteArray) (h:0 < s.size):(s.toList == []) = false:=by
 rw [ByteArray.toList_eq]
 have:s.data.toList.length = s.size:=tl_len s
 cases hh:s.data.toList with
 | nil=>rw [hh] at this;simp at this;omega
 | cons a b=>rfl
theorem lst_nil (s:ByteArray) (h:¬ 0 < s.size):(s.toList == []) = true:=by
 rw [ByteArray.toList_eq,beq_iff_eq]
 exact List.length_eq_zero_iff.1 (by rw [tl_len];omega)
theorem Escape_any (s:ByteArray) (attr:Bool) (w:World) (hs:s.size ≤ 17592186044416):Calls Tryz.prog 106 #[.string s,.bool attr] w fun e w'=>e = .returned (.string (sOf (escL attr (lOf s)))) ∧ Below w.heap.size w w':=by
 obtain ⟨wm,hmk,hbm,hbel⟩:=make_buf w s.size (s.size:Int) rfl (by omega)
 have et:({ data:=#[] }:ByteArray).toList = []:=by rw [ByteArray.toList_eq]
 go_enter Tryz.func106,Tryz.ntmps106
 go_wp2
 go_loopw [5,13] (fun v i wr=>∃ k:Nat,k ≤ s.size ∧ i = .int .i64 k ∧ Buf wr w.heap.size v (escL attr ((lOf s).take k)) ∧ Below w.heap.size w wr) (fun _ i _=>s.size - (intOf i).toNat)
 case atStart=>exact ⟨0,Nat.zero_le _,rfl,hbm,hbel⟩
 case round =>
  obtain ⟨k,hk,rfl,hB,HB⟩:=hrel
  by_cases hlt:k < s.size
  ·have ix:∀ w:World,(Instr.index 9 (.string s) (.int .i64 (k:Int))).run Tryz.prog w = .ok (.int .u8 (ch s k:Int)) w:=fun w=>idx (w:=w) s k hlt .i64
   have hlen:(escL attr ((lOf s).take k)).length + 6 ≤ 140737488355328:=by
    have:=escL_len attr ((lOf s).take k)
    rw [List.length_take,lOf_length] at this
    omega
   have hsz:=entB_size (ch s k)
   have fin:∀ (v':Value) (w':World),Buf w' w.heap.size v' (escL attr ((lOf s).take k) ++ escC attr (ch s k)) → Buf w' w.heap.size v' (escL attr ((lOf s).take (k + 1))):=fun v' w' h=>by
    rw [take_succ_ch s k hlt]
    unfold escL at h ⊢
    rw [List.flatMap_append]
    simpa using h
   by_cases k1:0 < (entB (ch s k)).size
   ·have e1:=lst_ne _ k1
    have ec:escC attr (ch s k) = lOf (entB (ch s k)):=by unfold escC;rw [if_pos k1]
    obtain ⟨v3,w3,hrun,hb3,hbel3⟩:=hB.str (entB (ch s k)) (by omega) HB.size
    rw [← ec] at hb3
    have hb4:=fin _ _ hb3
    clear hb3 fin ec hB hlen hsz
    go_wp2_with (first | (go_at_call 136;refine (entityOf_any _ _).mono ?_;rintro e w1 ⟨rfl,hw1⟩;subst w1) | (at_builtin;refine (wpList_append_ex (by rfl) _ _ _ _ (by rfl) _ _ (by rfl) (by rfl) (fun a b=>a = v3 ∧ b = w3) ⟨v3,w3,hrun,rfl,rfl⟩ ?_);rintro _ _ ⟨rfl,rfl⟩))
    go_roundw
    case rel=>exact ⟨k + 1,by omega,by go_num,hb4,HB.trans hbel3⟩
    case measure=>simp [intOf];omega
   ·have e1:=lst_nil _ k1
    by_cases k2:attr = true ∧ 0 < (attB (ch s k)).size
    ·have e2:=lst_ne _ k2.2
     have ec:escC attr (ch s k) = lOf (attB (ch s k)):=by unfold escC;rw [if_neg k1,if_pos k2]
     obtain ⟨v3,w3,hrun,hb3,hbel3⟩:=hB.str (attB (ch s k)) (by omega) HB.size
     rw [← ec] at hb3
     have hb4:=fin _ _ hb3
     obtain ⟨rfl,k22⟩:=k2
     clear hb3 fin ec hB hlen hsz
     go_wp2_with (first | (go_at_call 136;refine (entityOf_any _ _).mono ?_;rintro e w1 ⟨rfl,hw1⟩;subst w1) | (go_at_call 137;refine (attrEntityOf_any _ _).mono ?_;rintro e w1 ⟨rfl,hw1⟩;subst w1) | (at_builtin;refine (wpList_append_ex (by rfl) _ _ _ _ (by rfl) _ _ (by rfl) (by rfl) (fun a b=>a = v3 ∧ b = w3) ⟨v3,w3,hrun,rfl,rfl⟩ ?_);rintro _ _ ⟨rfl,rfl⟩))
     go_roundw
     case rel=>exact ⟨k + 1,by omega,by go_num,hb4,HB.trans hbel3⟩
     case measure=>simp [intOf];omega
    ·have ec:escC attr (ch s k) = [ch s k]:=by unfold escC;rw [if_neg k1,if_neg k2]
     obtain ⟨v3,w3,hrun,hb3,hbel3⟩:=hB.lit [ch s k] 1 1 rfl (by simp;omega) HB.size
     have hrun:∀ ty,(Builtin.append_ #[59,59] ty #[u5,.slice (some ⟨wr.heap.size,0,none⟩) 1 1]).run Tryz.prog (wr.alloc (.cells #[.int .u8 (ch s k:Int)] 5)) = .ok v3 w3:=hrun
     rw [← ec] at hb3
     have hb4:=fin _ _ hb3
     clear hb3 fin ec hB hlen hsz
     cases attr
     ·go_wp2_with (first | (go_at_call 136;refine (entityOf_any _ _).mono ?_;rintro e w1 ⟨rfl,hw1⟩;subst w1) | (at_builtin;refine (wpList_append_ex (by rfl) _ _ _ _ (by rfl) _ _ (by rfl) (by rfl) (fun a b=>a = v3 ∧ b = w3) ⟨v3,w3,hrun,rfl,rfl⟩ ?_);rintro _ _ ⟨rfl,rfl⟩))
      go_roundw
      case rel=>exact ⟨k + 1,by omega,by go_num,hb4,HB.trans hbel3⟩
      case measure=>simp [intOf];omega
     ·have e2:=lst_nil (attB (ch s k)) (fun h=>k2 ⟨rfl,h⟩)
      go_wp2_with (first | (go_at_call 136;refine (entityOf_any _ _).mono ?_;rintro e w1 ⟨rfl,hw1⟩;subst w1) | (go_at_call 137;refine (attrEntityOf_any _ _).mono ?_;rintro e w1 ⟨rfl,hw1⟩;subst w1) | (at_builtin;refine (wpList_append_ex (by rfl) _ _ _ _ (by rfl) _ _ (by rfl) (by rfl) (fun a b=>a = v3 ∧ b = w3) ⟨v3,w3,hrun,rfl,rfl⟩ ?_);rintro _ _ ⟨rfl,rfl⟩))
      go_roundw
      case rel=>exact ⟨k + 1,by omega,by go_num,hb4,HB.trans hbel3⟩
      case measure=>simp [intOf];omega
  ·obtain rfl:k = s.size:=by omega
   rw [take_all] at hB
   have hcv:=hB.conv
   go_wp2
   go_ret
   exact ⟨rfl,HB⟩
end Go.Proofs.YtchfphakhmifmabGreatDoor

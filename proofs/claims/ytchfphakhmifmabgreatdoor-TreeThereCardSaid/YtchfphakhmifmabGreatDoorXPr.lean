import Derived.Test.YtchfphakhmifmabGreatDoorXIx
import Derived.Test.YtchfphakhmifmabGreatDoorMB
namespace Go.Proofs.YtchfphakhmifmabGreatDoor
set_option maxRecDepth 1000000
set_option maxHeartbeats 16000000
open Go.ChangeShapes Go.WideShapes Go.ChangeAt Go.RowKit Go.Shelf Go.Lib
def skN (s:ByteArray) (a:Nat):Nat:=a + (s.data.toList.drop a).findIdx (fun b=>!BLs.contains b)
def upN (E:List UInt8) (s:ByteArray) (a:Nat):Nat:=a + (s.data.toList.drop a).findIdx (E.contains ·)
theorem drop_len (s:ByteArray) (a:Nat):(s.data.toList.drop a).length = s.size - a:=by rw [List.length_drop,tl_len]
theorem skN_le (s:ByteArray) (a:Nat) (h:a ≤ s.size):a ≤ skN s a ∧ skN s a ≤ s.size:=by
 unfold skN
 have:(s.data.toList.drop a).findIdx (fun b=>!BLs.contains b) ≤ (s.data.toList.drop a).length:=List.findIdx_le_length
 rw [drop_len] at this
 omega
theorem upN_le (E:List UInt8) (s:ByteArray) (a:Nat) (h:a ≤ s.size):a ≤ upN E s a ∧ upN E s a ≤ s.size:=by
 unfold upN
 have:(s.data.toList.drop a).findIdx (E.contains ·) ≤ (s.data.toList.drop a).length:=List.findIdx_le_length
 rw [drop_len] at this
 omega
theorem dropWhile_length {α:Type} (p:α → Bool) (l:List α):(l.dropWhile p).length = l.length - l.findIdx (fun b=>!p b):=by
 induction l with
 | nil=>rfl
 | cons b l ih =>
  rw [List.dropWhile_cons,List.findIdx_cons]
  cases h:p b
  ·simp
  ·simp [ih]
theorem indexAny_eq (E:List UInt8) (l:List UInt8):Lib.indexAny l E = if l.findIdx (E.contains ·) < l.length then ((l.findIdx (E.contains ·):Nat):Int) else -1:=by
 induction l with
 | nil=>rfl
 | cons b l ih =>
  unfold Lib.indexAny
  rw [List.findIdx_cons,List.length_cons,ih]
  cases h:E.contains b
  ·rw [if_neg (by decide)]
   simp only [cond_false]
   generalize l.findIdx (E.contains ·) = k
   by_cases hk:k < l.length
   ·rw [if_pos hk,if_pos (show k + 1 < l.length + 1 by omega)]
    have:((k:Int) == -1) = false:=by rw [beq_eq_false_iff_ne];omega
    rw [this]
    simp
   ·rw [if_neg hk,if_neg (show ¬ k + 1 < l.length + 1 by omega)]
    rfl
  ·simp
theorem list_from (s:ByteArray) (a:Nat):(s.extract a s.size).data.toList = s.data.toList.drop a:=by
 rw [list_ext,List.take_of_length_le (by rw [drop_len];exact Nat.le_refl _)]
theorem skipBlanks_any (R:Nat) (s:ByteArray) (a:Nat) (w:World) (h:RA w R s a) (ha:a ≤ s.size) (hs:s.size ≤ 9223372036854775806) :
  Calls Tryz.prog 149 #[.pointer (some ⟨R,0,none⟩)] w fun e w'=>e = .returned (.bool (decide (a < skN s a))) ∧ Mv R w w' ∧ RA w' R s (skN s a):=by
 have c0:∀ n,(w.drewN n).cell? ⟨R,0,none⟩ = some (.string s):=fun n=>h.h0
 have c1:∀ n,(w.drewN n).cell? ⟨R,1,none⟩ = some (.int .i64 (a:Int)):=fun n=>h.h1
 have sl:∀ w:World,(Instr.slice 9 (.string s) (some (.int .i64 (a:Int))) none none).run Tryz.prog w = .ok (.string (s.extract a s.size)) w:=fun w=>slice_from s a ha w
 have cT:=fun w=>strTrimLeft (s.extract a s.size) w
 rw [list_from] at cT
 have hk:=skN_le s a ha
 have hz:(bs (Lib.trimLeftS (s.data.toList.drop a) BLs)).size = s.size - skN s a:=by
  rw [bs_size]
  show ((s.data.toList.drop a).dropWhile (BLs.contains ·)).length = _
  rw [dropWhile_length,drop_len]
  unfold skN
  omega
 generalize bs (Lib.trimLeftS (s.data.toList.drop a) BLs) = t at cT hz
 generalize s.extract a s.size = u at cT sl
 generalize skN s a = k at hz hk ⊢
 have k0:=h.h0
 have k1:=h.h1
 go_enter Tryz.func149,Tryz.ntmps149
 go_wp2_with fail
 go_region_with (go_at_call 144;refine (cT _).mono ?_;rintro e w1 ⟨rfl,hb⟩)
 all_goals
  have hM:Mv R w w1:=Mv.of (bel_drew hb) h.lt
  have hA:RA w1 R s a:=h.below (bel_drew hb)
  have d0:∀ n,(w1.drewN n).cell? ⟨R,0,none⟩ = some (.string s):=fun n=>hA.h0
  have d1:∀ n,(w1.drewN n).cell? ⟨R,1,none⟩ = some (.int .i64 (a:Int)):=fun n=>hA.h1
  have df:∀ n,(w1.drewN n).frozen? ⟨R,1,none⟩ = false:=fun n=>hA.fz 1
  have e1:IntKind.i64.wrap ((s.size:Int) - (t.size:Int)) = (s.size:Int) - (t.size:Int):=by rw [IntKind.wrap_i64];omega
  have e2:IntKind.i64.wrap ((s.size:Int) - (t.size:Int) - (a:Int)) = ((k - a:Nat):Int):=by rw [IntKind.wrap_i64];omega
  clear c0 c1 cT sl k0 k1 hb
  go_wp2_with fail
  go_quiet (fail)
  go_wp2_with fail
  go_ret
  exact ⟨ret_bool (by rw [decide_eq_decide];omega),(hM.drewN _).trans (Mv.set R _ _),(hA.drewN _).put _ (by omega)⟩
end Go.Proofs.YtchfphakhmifmabGreatDoor

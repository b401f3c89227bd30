import Derived.Test.YtchfphakhmifmabGreatDoorRef9
namespace Go.Proofs.YtchfphakhmifmabGreatDoor
set_option maxRecDepth 1000000
set_option maxHeartbeats 16000000
open Go.ChangeShapes Go.WideShapes Go.ChangeAt Go.RowKit
theorem ext_ext (s:ByteArray) (a b c d:Nat) (_:b ≤ s.size) (hd:a + d ≤ b):(s.extract a b).extract c d = s.extract (a + c) (a + d):=by
 apply ba_ext
 rw [list_ext,list_ext,list_ext,List.drop_take,List.drop_drop,List.take_take]
 congr 1
 omega
theorem wrI_none {c:Nat} (h:worth c = none):wrI c = -1:=by unfold wrI;rw [h]
theorem wrI_some {c d:Nat} (h:worth c = some d):wrI c = (d:Int):=by unfold wrI;rw [h]
def numR (base:Nat) (l:List Nat):List Nat:=if l = [] then [] else match numF base l 0 with
 | some n=>if xmlB (n:Int) = true then encN n else []
 | none=>[]
def hxB (X:ByteArray) (t:ByteArray):Bool:=decide (t.size ≤ X.size) && decide (X.extract 0 t.size = t)
def entR (X:ByteArray):List Nat:=match nameB X.data.toList with
 | some b=>[b]
 | none=>if hxB X ⟨#[35,120]⟩ = true then numR 16 ((lOf X).drop 2) else if hxB X ⟨#[35]⟩ = true then numR 10 ((lOf X).drop 1) else []
def Rel (q:Nat) (m:Int):Prop:=((q:Int) = m ∧ q ≤ 1114111) ∨ (1114111 < q ∧ 1114111 < m)
theorem Rel.step {q:Nat} {m:Int} (h:Rel q m) (base d:Nat) (hb:base = 10 ∨ base = 16) (hm:m ≤ 2000000):Rel (min (q * base + d) 1114112) (if 2000000 < m * base + d then 2000000 else m * base + d):=by
 unfold Rel at h ⊢
 rcases hb with rfl | rfl
 ·rcases h with ⟨h1,h2⟩ | ⟨h1,h2⟩
  ·subst h1
   by_cases h3:q * 10 + d ≤ 1114111
   ·left
    rw [if_neg (by omega)]
    omega
   ·right
    split <;> omega
  ·right
   split <;> omega
 ·rcases h with ⟨h1,h2⟩ | ⟨h1,h2⟩
  ·subst h1
   by_cases h3:q * 16 + d ≤ 1114111
   ·left
    rw [if_neg (by omega)]
    omega
   ·right
    split <;> omega
  ·right
   split <;> omega
theorem xmlB_big (n:Int) (h:1114111 < n):xmlB n = false:=by unfold xmlB;simp;omega
theorem Rel.xml {q:Nat} {m:Int} (h:Rel q m):xmlB m = xmlB (q:Int):=by
 rcases h with ⟨h1,h2⟩ | ⟨h1,h2⟩
 ·rw [h1]
 ·rw [xmlB_big m h2,xmlB_big (q:Int) (by omega)]
theorem Rel.eq {q:Nat} {m:Int} (h:Rel q m) (hx:xmlB m = true):m = (q:Int):=by
 rcases h with ⟨h1,h2⟩ | ⟨h1,h2⟩
 ·exact h1.symm
 ·rw [xmlB_big m h2] at hx;cases hx
theorem xml_good (n:Nat) (h:xmlB (n:Int) = true):encI (n:Int) = encN n:=by
 unfold xmlB at h
 simp at h
 rw [encI_good (n:Int) (by omega) (by omega) (by omega)]
 rfl
theorem entR_name (X:ByteArray) (b:Nat) (h:nameB X.data.toList = some b):entR X = [b]:=by unfold entR;rw [h]
theorem rent_kAmp (X:ByteArray) (hX:X.toList = kAmp) (w:World):Calls Tryz.prog 158 #[.string X] w fun e w'=>e = .returned (.string (sOf (entR X))) ∧ Below w.heap.size w w':=by
 have q0:(([97,109,112]:List UInt8) == X.toList) = true:=by rw [hX];rfl
 have hg:Hid (sOf (entR X) = ⟨#[38]⟩):=by
  show _ = _
  rw [entR_name X 38 (by rw [← ByteArray.toList_eq,hX];decide)]
  rfl
 clear hX
 go_enter Tryz.func158,Tryz.ntmps158
 go_wp2_with fail
 refine wp_loop_rounds 1 ?_
 rw [rounds_succ]
 go_wp2_with fail
 go_ret
 exact ⟨rsret (by rw [hg.out];decide),rbel _ _⟩
theorem rent_kLt (X:ByteArray) (hX:X.toList = kLt) (w:World):Calls Tryz.prog 158 #[.string X] w fun e w'=>e = .returned (.string (sOf (entR X))) ∧ Below w.heap.size w w':=by
 have q0:(([97,109,112]:List UInt8) == X.toList) = false:=by rw [hX];rfl
 have q1:(([108,116]:List UInt8) == X.toList) = true:=by rw [hX];rfl
 have hg:Hid (sOf (entR X) = ⟨#[60]⟩):=by
  show _ = _
  rw [entR_name X 60 (by rw [← ByteArray.toList_eq,hX];decide)]
  rfl
 clear hX
 go_enter Tryz.func158,Tryz.ntmps158
 go_wp2_with fail
 refine wp_loop_rounds 2 ?_
 rw [rounds_succ]
 go_wp2_with fail
 rw [rounds_succ]
 go_wp2_with fail
 go_ret
 exact ⟨rsret (by rw [hg.out];decide),rbel _ _⟩
theorem rent_kGt (X:ByteArray) (hX:X.toList = kGt) (w:World):Calls Tryz.prog 158 #[.string X] w fun e w'=>e = .returned (.string (sOf (entR X))) ∧ Below w.heap.size w w':=by
 have q0:(([97,109,112]:List UInt8) == X.toList) = false:=by rw [hX];rfl
 have q1:(([108,116]:List UInt8) == X.toList) = false:=by rw [hX];rfl
 have q2:(([103,116]:List UInt8) == X.toList) = true:=by rw [hX];rfl
 have hg:Hid (sOf (entR X) = ⟨#[62]⟩):=by
  show _ = _
  rw [entR_name X 62 (by rw [← ByteArray.toList_eq,hX];decide)]
  rfl
 clear hX
 go_enter Tryz.func158,Tryz.ntmps158
 go_wp2_with fail
 refine wp_loop_rounds 3 ?_
 rw [rounds_succ]
 go_wp2_with fail
 rw [rounds_succ]
 go_wp2_with fail
 rw [rounds_succ]
 go_wp2_with fail
 go_ret
 exact ⟨rsret (by rw [hg.out];decide),rbel _ _⟩
theorem rent_kQuot (X:ByteArray) (hX:X.toList = kQuot) (w:World):Calls Tryz.prog 158 #[.string X] w fun e w'=>e = .returned (.string (sOf (entR X))) ∧ Below w.heap.size w w':=by
 have q0:(([97,109,112]:List UInt8) == X.toList) = false:=by rw [hX];rfl
 have q1:(([108,116]:List UInt8) == X.toList) = false:=by rw [hX];rfl
 have q2:(([103,116]:List UInt8) == X.toList) = false:=by rw [hX];rfl
 have q3:(([113,117,111,116]:List UInt8) == X.toList) = true:=by rw [hX];rfl
 have hg:Hid (sOf (entR X) = ⟨#[34]⟩):=by
  show _ = _
  rw [entR_name X 34 (by rw [← ByteArray.toList_eq,hX];decide)]
  rfl
 clear hX
 go_enter Tryz.func158,Tryz.ntmps158
 go_wp2_with fail
 refine wp_loop_rounds 4 ?_
 rw [rounds_succ]
 go_wp2_with fail
 rw [rounds_succ]
 go_wp2_with fail
 rw [rounds_succ]
 go_wp2_with fail
 rw [rounds_succ]
 go_wp2_with fail
 go_ret
 exact ⟨rsret (by rw [hg.out];decide),rbel _ _⟩
theorem rent_kApos (X:ByteArray) (hX:X.toList = kApos) (w:World):Calls Tryz.prog 158 #[.string X] w fun e w'=>e = .returned (.string (sOf (entR X))) ∧ Below w.heap.size w w':=by
 have q0:(([97,109,112]:List UInt8) == X.toList) = false:=by rw [hX];rfl
 have q1:(([108,116]:List UInt8) == X.toList) = false:=by rw [hX];rfl
 have q2:(([103,116]:List UInt8) == X.toList) = false:=by rw [hX];rfl
 have q3:(([113,117,111,116]:List UInt8) == X.toList) = false:=by rw [hX];rfl
 have q4:(([97,112,111,115]:List UInt8) == X.toList) = true:=by rw [hX];rfl
 have hg:Hid (sOf (entR X) = ⟨#[39]⟩):=by
  show _ = _
  rw [entR_name X 39 (by rw [← ByteArray.toList_eq,hX];decide)]
  rfl
 clear hX
 go_enter Tryz.func158,Tryz.ntmps158
 go_wp2_with fail
 refine wp_loop_rounds 5 ?_
 rw [rounds_succ]
 go_wp2_with fail
 rw [rounds_succ]
 go_wp2_with fail
 rw [rounds_succ]
 go_wp2_with fail
 rw [rounds_succ]
 go_wp2_with fail
 rw [rounds_succ]
 go_wp2_with fail
 go_ret
 exact ⟨rsret (by rw [hg.out];decide),rbel _ _⟩
end Go.Proofs.YtchfphakhmifmabGreatDoor

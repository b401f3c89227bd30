import Derived.Test.YtchfphakhmifmabGreatDoorMC
import Derived.Test.YtchfphakhmifmabGreatDoorEsc
namespace Go.Proofs.YtchfphakhmifmabGreatDoor
set_option maxRecDepth 1000000
set_option maxHeartbeats 16000000
open Go.ChangeShapes Go.WideShapes Go.ChangeAt Go.RowKit Go.Shelf Go.Lib
def escB (attr:Bool) (v:ByteArray):ByteArray:=sOf (escL attr (lOf v))
def wrB (k:Nat) (nm vl:ByteArray):ByteArray :=
 if k = 0 then ⟨#[60]⟩ ++ nm
 else if k = 1 then ⟨#[32]⟩ ++ nm ++ ⟨#[61,34]⟩ ++ escB true vl ++ ⟨#[34]⟩
 else if k = 2 then ⟨#[62]⟩
 else if k = 3 then ⟨#[47,62]⟩
 else if k = 4 then ⟨#[60,47]⟩ ++ nm ++ ⟨#[62]⟩
 else if k = 5 then escB false vl
 else if k = 6 then ⟨#[60,33,45,45]⟩ ++ vl ++ ⟨#[45,45,62]⟩
 else bXML ++ vl ++ bSHUT
theorem escB_size (attr:Bool) (v:ByteArray):(escB attr v).size ≤ 6 * v.size:=by
 unfold escB
 rw [sOf_size]
 have:=escL_len attr (lOf v)
 rwa [lOf_length] at this
theorem written_any (k:Nat) (nm vl:ByteArray) (p:Int) (w:World) (hk:k < 8) (hn:nm.size ≤ 16777216) (hv:vl.size ≤ 16777216) :
  Calls Tryz.prog 82 #[.agg #[.int .i64 (k:Int),.string nm,.string vl,.int .i64 p]] w fun e w'=>e = .returned (.string (wrB k nm vl)) ∧ Below w.heap.size w w':=by
 have hb:=bel1 w (.cells #[.int .i64 (k:Int),.string nm,.string vl,.int .i64 p] 67)
 have HB:Hid (Below w.heap.size w _):=hb
 have hk8:k = 0 ∨ k = 1 ∨ k = 2 ∨ k = 3 ∨ k = 4 ∨ k = 5 ∨ k = 6 ∨ k = 7:=by omega
 rcases hk8 with rfl | rfl | rfl | rfl | rfl | rfl | rfl | rfl
 ·go_enter Tryz.func82,Tryz.ntmps82
  go_wp2_with fail
  go_ret
  exact ⟨rfl,HB.out⟩
 ·have cE:=fun w=>Escape_any vl true w (by omega)
  have hz:=escB_size true vl
  unfold escB at hz
  have HW:Hid (wrB 1 nm vl = ⟨#[32]⟩ ++ nm ++ ⟨#[61,34]⟩ ++ sOf (escL true (lOf vl)) ++ ⟨#[34]⟩):=rfl
  have hTK:=TK.of (heap_new w (.cells #[.int .i64 1,.string nm,.string vl,.int .i64 p] 67))
  have hTl:=hTK.lt
  have z1:=hTK.c1
  generalize sOf (escL true (lOf vl)) = E at *
  go_enter Tryz.func82,Tryz.ntmps82
  go_wp2_with fail
  go_region_with (go_at_call 106;refine (cE _).mono ?_;rintro e w1 ⟨rfl,hb1⟩;have z2:=(hb1.cell (p:=⟨w.heap.size,1,none⟩) hTl).trans z1)
  all_goals
   go_wp2_with fail
   go_ret
   exact ⟨by rw [HW.out];rfl,HB.out.trans ((Below.refl _ _).drew.trans (hb1.mono HB.out.size))⟩
 ·go_enter Tryz.func82,Tryz.ntmps82
  go_wp2_with fail
  go_ret
  exact ⟨rfl,HB.out⟩
 ·go_enter Tryz.func82,Tryz.ntmps82
  go_wp2_with fail
  go_ret
  exact ⟨rfl,HB.out⟩
 ·go_enter Tryz.func82,Tryz.ntmps82
  go_wp2_with fail
  go_ret
  exact ⟨rfl,HB.out⟩
 ·have cE:=fun w=>Escape_any vl false w (by omega)
  have HW:Hid (wrB 5 nm vl = escB false vl):=rfl
  go_enter Tryz.func82,Tryz.ntmps82
  go_wp2_with (go_at_call 106;refine (cE _).mono ?_;rintro e w1 ⟨rfl,hb1⟩)
  go_ret
  exact ⟨rfl,HB.out.trans (hb1.mono HB.out.size)⟩
 ·go_enter Tryz.func82,Tryz.ntmps82
  go_wp2_with fail
  go_ret
  exact ⟨rfl,HB.out⟩
 ·go_enter Tryz.func82,Tryz.ntmps82
  go_wp2_with fail
  go_ret
  exact ⟨rfl,HB.out⟩
def comB (v:ByteArray):Bool:=!Lib.contains v.data.toList bHH.data.toList && !Lib.hasSuffix v.data.toList [45]
theorem isComment_any (v:ByteArray) (w:World) (hv:v.size < 4294967281) (hE:Env w):Calls Tryz.prog 104 #[.string v] w fun e w'=>e = .returned (.bool (comB v)) ∧ w' = w:=by
 obtain ⟨m,hm⟩:=hE.ml
 have c1:=strContains v bHH m w hv hm
 have c2:Calls Tryz.prog 135 #[.string v,.string ⟨#[45]⟩] w fun e w'=>e = .returned (.bool (Lib.hasSuffix v.data.toList [45])) ∧ w' = w:=strHasSuffix v ⟨#[45]⟩ w (by omega)
 unfold comB
 generalize Lib.contains v.data.toList bHH.data.toList = x at *
 generalize Lib.hasSuffix v.data.toList [45] = y at *
 cases x
 all_goals
  go_enter Tryz.func104,Tryz.ntmps104
  go_wp2_with (first
   | (go_at_call 134;refine c1.mono ?_;rintro e w1 ⟨rfl,rfl⟩)
   | (go_at_call 135;refine c2.mono ?_;rintro e w2 ⟨rfl,rfl⟩))
  go_ret
  exact ⟨rfl,rfl⟩
def dclB (v:ByteArray):Bool:=decide (declN (bXML ++ v ++ bSHUT) = (bXML ++ v ++ bSHUT).size)
theorem isDeclaration_any (v:ByteArray) (w:World) (hv:v.size ≤ 16777216) (hE:Env w):Calls Tryz.prog 105 #[.string v] w fun e w'=>e = .returned (.bool (dclB v)) ∧ Below w.heap.size w w':=by
 have hz:(bXML ++ v ++ bSHUT).size = 5 + v.size + 2:=by rw [ByteArray.size_append,ByteArray.size_append];rfl
 have cD:=declSize_any (bXML ++ v ++ bSHUT) w (by omega) hE.ft
 unfold dclB
 rw [hz]
 have hb:((declN (bXML ++ v ++ bSHUT):Int) == 5 + (v.size:Int) + 2) = decide (declN (bXML ++ v ++ bSHUT) = 5 + v.size + 2):=by
  rw [Bool.eq_iff_iff,beq_iff_eq,decide_eq_true_iff];omega
 generalize decide (declN (bXML ++ v ++ bSHUT) = 5 + v.size + 2) = x at *
 generalize declN (bXML ++ v ++ bSHUT) = d at *
 go_enter Tryz.func105,Tryz.ntmps105
 go_wp2_with (go_at_call 110;refine cD.mono ?_;rintro e w1 ⟨rfl,hb1⟩)
 go_ret
 exact ⟨rfl,hb1⟩
end Go.Proofs.YtchfphakhmifmabGreatDoor

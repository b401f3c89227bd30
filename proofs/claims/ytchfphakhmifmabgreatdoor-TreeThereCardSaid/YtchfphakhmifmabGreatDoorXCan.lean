import Derived.Test.YtchfphakhmifmabGreatDoorXChk
namespace Go.Proofs.YtchfphakhmifmabGreatDoor
set_option maxRecDepth 1000000
set_option maxHeartbeats 16000000
open Go.ChangeShapes Go.WideShapes Go.ChangeAt Go.RowKit Go.Shelf Go.Lib
def inT (last:Int):Bool:=decide (last = 0 ∨ last = 1)
theorem inTag_p (B:Nat) (last:Int) (w:World) (h1:w.cell? ⟨B,1,none⟩ = some (.int .i64 last)):Calls Tryz.prog 59 #[.pointer (some ⟨B,0,none⟩)] w fun e w'=>e = .returned (.bool (inT last)) ∧ w' = w:=by
 unfold inT
 by_cases h0:last = 0
 ·subst h0
  go_enter Tryz.func59,Tryz.ntmps59
  go_wp2_with fail
  go_ret
  exact ⟨rfl,rfl⟩
 ·have k0:(last == 0) = false:=beq_eq_false_iff_ne.2 h0
  by_cases k1:last = 1
  ·subst k1
   go_enter Tryz.func59,Tryz.ntmps59
   go_wp2_with fail
   go_ret
   exact ⟨rfl,rfl⟩
  ·have k2:(last == 1) = false:=beq_eq_false_iff_ne.2 k1
   go_enter Tryz.func59,Tryz.ntmps59
   go_wp2_with fail
   go_ret
   exact ⟨ret_bool (by simp [h0,k1]),rfl⟩
def canF (last:Int) (k:Nat) (nm vl:ByteArray):Bool :=
 if (!decide (nm.size = 0) && !shN k) || ((!decide (vl.size = 0) && !shV k) || (shT k != inT last)) then false
 else if k = 7 then decide (last = -1)
 else if k = 5 then !decide (vl.size = 0) && !decide (last = 5)
 else true
theorem canFollow_k (B:Nat) (last:Int) (k:Nat) (nm vl:ByteArray) (p:Int) (w:World) (hk:k < 8) (hS:ShpTab w) (h7:7 ≤ w.heap.size) (h1:w.cell? ⟨B,1,none⟩ = some (.int .i64 last)) (hB:B < w.heap.size) :
  Calls Tryz.prog 80 #[.pointer (some ⟨B,0,none⟩),.agg #[.int .i64 (k:Int),.string nm,.string vl,.int .i64 p]] w fun e w'=>e = .returned (.bool (canF last k nm vl)) ∧ Below w.heap.size w w':=by
 have hb:=bel1 w (.cells #[.int .i64 (k:Int),.string nm,.string vl,.int .i64 p] 67)
 have hb2:=hb.alloc (by simp) (.cells #[.bool (shN k),.bool (shV k),.bool (shT k)] 142)
 have HB:Hid (Below w.heap.size w _):=hb2
 have s0:=(hS.below hb h7).n k hk
 have s1:=(hS.below hb h7).v k hk
 have s2:=(hS.below hb h7).t k hk
 have c1:=(hb.cell (p:=⟨B,1,none⟩) hB).trans h1
 have c2:∀ n,(((w.alloc (.cells #[.int .i64 (k:Int),.string nm,.string vl,.int .i64 p] 67)).alloc (.cells #[.bool (shN k),.bool (shV k),.bool (shT k)] 142)).drewN n).cell? ⟨B,1,none⟩ = some (.int .i64 last):=fun n=>(hb2.cell (p:=⟨B,1,none⟩) hB).trans h1
 have cI:=inTag_p B last
 have e1:=nempty nm
 have e2:=nempty vl
 unfold canF
 generalize hn:decide (nm.size = 0) = ne at *
 generalize hv:decide (vl.size = 0) = ve at *
 generalize inT last = it at *
 have hk8:k = 0 ∨ k = 1 ∨ k = 2 ∨ k = 3 ∨ k = 4 ∨ k = 5 ∨ k = 6 ∨ k = 7:=by omega
 rcases hk8 with rfl | rfl | rfl | rfl | rfl | rfl | rfl | rfl
 ·have s0':(w.alloc (.cells #[.int .i64 0,.string nm,.string vl,.int .i64 p] 67)).cell? ⟨0,0,none⟩ = some (.bool true):=s0
  have s1':(w.alloc (.cells #[.int .i64 0,.string nm,.string vl,.int .i64 p] 67)).cell? ⟨0,1,none⟩ = some (.bool false):=s1
  have s2':(w.alloc (.cells #[.int .i64 0,.string nm,.string vl,.int .i64 p] 67)).cell? ⟨0,2,none⟩ = some (.bool false):=s2
  have c2':∀ n,(((w.alloc (.cells #[.int .i64 0,.string nm,.string vl,.int .i64 p] 67)).alloc (.cells #[.bool true,.bool false,.bool false] 142)).drewN n).cell? ⟨B,1,none⟩ = some (.int .i64 last):=c2
  have HB':Hid (Below w.heap.size w ((w.alloc (.cells #[.int .i64 0,.string nm,.string vl,.int .i64 p] 67)).alloc (.cells #[.bool true,.bool false,.bool false] 142))):=HB
  clear s0 s1 s2 c2 HB hb hb2 c1
  cases ne <;> cases ve <;> cases it
  all_goals
   go_enter Tryz.func80,Tryz.ntmps80
   go_wp2_with fail
   go_quiet ((go_at_call 59;refine Calls.quiet_of_same (cI _ (c2' _))))
   have c3:=c2' nq
   go_wp2_with fail
   go_ret
   exact ⟨by first | rfl | simp [shN,shV,shT] | (simp [shN,shV,shT];rfl),bdN HB'.out _⟩
 ·have s0':(w.alloc (.cells #[.int .i64 1,.string nm,.string vl,.int .i64 p] 67)).cell? ⟨0,3,none⟩ = some (.bool true):=s0
  have s1':(w.alloc (.cells #[.int .i64 1,.string nm,.string vl,.int .i64 p] 67)).cell? ⟨0,4,none⟩ = some (.bool true):=s1
  have s2':(w.alloc (.cells #[.int .i64 1,.string nm,.string vl,.int .i64 p] 67)).cell? ⟨0,5,none⟩ = some (.bool true):=s2
  have c2':∀ n,(((w.alloc (.cells #[.int .i64 1,.string nm,.string vl,.int .i64 p] 67)).alloc (.cells #[.bool true,.bool true,.bool true] 142)).drewN n).cell? ⟨B,1,none⟩ = some (.int .i64 last):=c2
  have HB':Hid (Below w.heap.size w ((w.alloc (.cells #[.int .i64 1,.string nm,.string vl,.int .i64 p] 67)).alloc (.cells #[.bool true,.bool true,.bool true] 142))):=HB
  clear s0 s1 s2 c2 HB hb hb2 c1
  cases ne <;> cases ve <;> cases it
  all_goals
   go_enter Tryz.func80,Tryz.ntmps80
   go_wp2_with fail
   go_quiet ((go_at_call 59;refine Calls.quiet_of_same (cI _ (c2' _))))
   have c3:=c2' nq
   go_wp2_with fail
   go_ret
   exact ⟨by first | rfl | simp [shN,shV,shT] | (simp [shN,shV,shT];rfl),bdN HB'.out _⟩
 ·have s0':(w.alloc (.cells #[.int .i64 2,.string nm,.string vl,.int .i64 p] 67)).cell? ⟨0,6,none⟩ = some (.bool false):=s0
  have s1':(w.alloc (.cells #[.int .i64 2,.string nm,.string vl,.int .i64 p] 67)).cell? ⟨0,7,none⟩ = some (.bool false):=s1
  have s2':(w.alloc (.cells #[.int .i64 2,.string nm,.string vl,.int .i64 p] 67)).cell? ⟨0,8,none⟩ = some (.bool true):=s2
  have c2':∀ n,(((w.alloc (.cells #[.int .i64 2,.string nm,.string vl,.int .i64 p] 67)).alloc (.cells #[.bool false,.bool false,.bool true] 142)).drewN n).cell? ⟨B,1,none⟩ = some (.int .i64 last):=c2
  have HB':Hid (Below w.heap.size w ((w.alloc (.cells #[.int .i64 2,.string nm,.string vl,.int .i64 p] 67)).alloc (.cells #[.bool false,.bool false,.bool true] 142))):=HB
  clear s0 s1 s2 c2 HB hb hb2 c1
  cases ne <;> cases ve <;> cases it
  all_goals
   go_enter Tryz.func80,Tryz.ntmps80
   go_wp2_with fail
   go_quiet ((go_at_call 59;refine Calls.quiet_of_same (cI _ (c2' _))))
   have c3:=c2' nq
   go_wp2_with fail
   go_ret
   exact ⟨by first | rfl | simp [shN,shV,shT] | (simp [shN,shV,shT];rfl),bdN HB'.out _⟩
 ·have s0':(w.alloc (.cells #[.int .i64 3,.string nm,.string vl,.int .i64 p] 67)).cell? ⟨0,9,none⟩ = some (.bool false):=s0
  have s1':(w.alloc (.cells #[.int .i64 3,.string nm,.string vl,.int .i64 p] 67)).cell? ⟨0,10,none⟩ = some (.bool false):=s1
  have s2':(w.alloc (.cells #[.int .i64 3,.string nm,.string vl,.int .i64 p] 67)).cell? ⟨0,11,none⟩ = some (.bool true):=s2
  have c2':∀ n,(((w.alloc (.cells #[.int .i64 3,.string nm,.string vl,.int .i64 p] 67)).alloc (.cells #[.bool false,.bool false,.bool true] 142)).drewN n).cell? ⟨B,1,none⟩ = some (.int .i64 last):=c2
  have HB':Hid (Below w.heap.size w ((w.alloc (.cells #[.int .i64 3,.string nm,.string vl,.int .i64 p] 67)).alloc (.cells #[.bool false,.bool false,.bool true] 142))):=HB
  clear s0 s1 s2 c2 HB hb hb2 c1
  cases ne <;> cases ve <;> cases it
  all_goals
   go_enter Tryz.func80,Tryz.ntmps80
   go_wp2_with fail
   go_quiet ((go_at_call 59;refine Calls.quiet_of_same (cI _ (c2' _))))
   have c3:=c2' nq
   go_wp2_with fail
   go_ret
   exact ⟨by first | rfl | simp [shN,shV,shT] | (simp [shN,shV,shT];rfl),bdN HB'.out _⟩
 ·have s0':(w.alloc (.cells #[.int .i64 4,.string nm,.string vl,.int .i64 p] 67)).cell? ⟨0,12,none⟩ = some (.bool true):=s0
  have s1':(w.alloc (.cells #[.int .i64 4,.string nm,.string vl,.int .i64 p] 67)).cell? ⟨0,13,none⟩ = some (.bool false):=s1
  have s2':(w.alloc (.cells #[.int .i64 4,.string nm,.string vl,.int .i64 p] 67)).cell? ⟨0,14,none⟩ = some (.bool false):=s2
  have c2':∀ n,(((w.alloc (.cells #[.int .i64 4,.string nm,.string vl,.int .i64 p] 67)).alloc (.cells #[.bool true,.bool false,.bool false] 142)).drewN n).cell? ⟨B,1,none⟩ = some (.int .i64 last):=c2
  have HB':Hid (Below w.heap.size w ((w.alloc (.cells #[.int .i64 4,.string nm,.string vl,.int .i64 p] 67)).alloc (.cells #[.bool true,.bool false,.bool false] 142))):=HB
  clear s0 s1 s2 c2 HB hb hb2 c1
  cases ne <;> cases ve <;> cases it
  all_goals
   go_enter Tryz.func80,Tryz.ntmps80
   go_wp2_with fail
   go_quiet ((go_at_call 59;refine Calls.quiet_of_same (cI _ (c2' _))))
   have c3:=c2' nq
   go_wp2_with fail
   go_ret
   exact ⟨by first | rfl | simp [shN,shV,shT] | (simp [shN,shV,shT];rfl),bdN HB'.out _⟩
 ·have s0':(w.alloc (.cells #[.int .i64 5,.string nm,.string vl,.int .i64 p] 67)).cell? ⟨0,15,none⟩ = some (.bool false):=s0
  have s1':(w.alloc (.cells #[.int .i64 5,.string nm,.string vl,.int .i64 p] 67)).cell? ⟨0,16,none⟩ = some (.bool true):=s1
  have s2':(w.alloc (.cells #[.int .i64 5,.string nm,.string vl,.int .i64 p] 67)).cell? ⟨0,17,none⟩ = some (.bool false):=s2
  have c2':∀ n,(((w.alloc (.cells #[.int .i64 5,.string nm,.string vl,.int .i64 p] 67)).alloc (.cells #[.bool false,.bool true,.bool false] 142)).drewN n).cell? ⟨B,1,none⟩ = some (.int .i64 last):=c2
  have HB':Hid (Below w.heap.size w ((w.alloc (.cells #[.int .i64 5,.string nm,.string vl,.int .i64 p] 67)).alloc (.cells #[.bool false,.bool true,.bool false] 142))):=HB
  clear s0 s1 s2 c2 HB hb hb2 c1
  cases ne <;> cases ve <;> cases it
  all_goals
   go_enter Tryz.func80,Tryz.ntmps80
   go_wp2_with fail
   go_quiet ((go_at_call 59;refine Calls.quiet_of_same (cI _ (c2' _))))
   have c3:=c2' nq
   go_wp2_with fail
   go_ret
   exact ⟨by first | rfl | simp [shN,shV,shT] | (simp [shN,shV,shT];rfl),bdN HB'.out _⟩
 ·have s0':(w.alloc (.cells #[.int .i64 6,.string nm,.string vl,.int .i64 p] 67)).cell? ⟨0,18,none⟩ = some (.bool false):=s0
  have s1':(w.alloc (.cells #[.int .i64 6,.string nm,.string vl,.int .i64 p] 67)).cell? ⟨0,19,none⟩ = some (.bool true):=s1
  have s2':(w.alloc (.cells #[.int .i64 6,.string nm,.string vl,.int .i64 p] 67)).cell? ⟨0,20,none⟩ = some (.bool false):=s2
  have c2':∀ n,(((w.alloc (.cells #[.int .i64 6,.string nm,.string vl,.int .i64 p] 67)).alloc (.cells #[.bool false,.bool true,.bool false] 142)).drewN n).cell? ⟨B,1,none⟩ = some (.int .i64 last):=c2
  have HB':Hid (Below w.heap.size w ((w.alloc (.cells #[.int .i64 6,.string nm,.string vl,.int .i64 p] 67)).alloc (.cells #[.bool false,.bool true,.bool false] 142))):=HB
  clear s0 s1 s2 c2 HB hb hb2 c1
  cases ne <;> cases ve <;> cases it
  all_goals
   go_enter Tryz.func80,Tryz.ntmps80
   go_wp2_with fail
   go_quiet ((go_at_call 59;refine Calls.quiet_of_same (cI _ (c2' _))))
   have c3:=c2' nq
   go_wp2_with fail
   go_ret
   exact ⟨by first | rfl | simp [shN,shV,shT] | (simp [shN,shV,shT];rfl),bdN HB'.out _⟩
 ·have s0':(w.alloc (.cells #[.int .i64 7,.string nm,.string vl,.int .i64 p] 67)).cell? ⟨0,21,none⟩ = some (.bool false):=s0
  have s1':(w.alloc (.cells #[.int .i64 7,.string nm,.string vl,.int .i64 p] 67)).cell? ⟨0,22,none⟩ = some (.bool true):=s1
  have s2':(w.alloc (.cells #[.int .i64 7,.string nm,.string vl,.int .i64 p] 67)).cell? ⟨0,23,none⟩ = some (.bool false):=s2
  have c2':∀ n,(((w.alloc (.cells #[.int .i64 7,.string nm,.string vl,.int .i64 p] 67)).alloc (.cells #[.bool false,.bool true,.bool false] 142)).drewN n).cell? ⟨B,1,none⟩ = some (.int .i64 last):=c2
  have HB':Hid (Below w.heap.size w ((w.alloc (.cells #[.int .i64 7,.string nm,.string vl,.int .i64 p] 67)).alloc (.cells #[.bool false,.bool true,.bool false] 142))):=HB
  clear s0 s1 s2 c2 HB hb hb2 c1
  cases ne <;> cases ve <;> cases it
  all_goals
   go_enter Tryz.func80,Tryz.ntmps80
   go_wp2_with fail
   go_quiet ((go_at_call 59;refine Calls.quiet_of_same (cI _ (c2' _))))
   have c3:=c2' nq
   go_wp2_with fail
   go_ret
   exact ⟨by first | rfl | simp [shN,shV,shT] | (simp [shN,shV,shT];rfl),bdN HB'.out _⟩
end Go.Proofs.YtchfphakhmifmabGreatDoor

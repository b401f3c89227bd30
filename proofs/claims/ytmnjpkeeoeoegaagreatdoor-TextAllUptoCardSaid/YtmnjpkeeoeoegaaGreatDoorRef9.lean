/- The document's answer: a call at a step of a region that draws its order; Hex. -/
import Derived.Test.YtmnjpkeeoeoegaaGreatDoorRef8
import Derived.Deep.RegionLaw
namespace Go.Proofs.YtmnjpkeeoeoegaaGreatDoor
open Go.ChangeShapes Go.WideShapes Go.ChangeAt Go.RowKit

theorem step_call_ex {P : Program} {w : World} {ops : Array Oper} {o : Oper} {a : Act} {K : Act → World → Prop} {Q : Exit → Act → World → Prop} {E : Prop} (hgd : o.guard = none) (f : FuncId) (x : Array Operand) (tx : Array TypeId)
    (ho : o.op = .call { callee := .value (.func f), args := x, argTypes := tx }) (hen : ∀ ag w, (callFunc f ag).run P w = .ok (.enter f ag) w) (xv : Array Value) (hx : x.map a.eval = xv) (Post : Value → World → Prop)
    (hc : Calls P f xv w fun e w' => ∃ v, e = .returned v ∧ Post v w') (h : ∀ v w', Post v w' → K (a.put o.dst v) w') : if Region.wanted o (yielded ops a.tmps) = true then Oper.wp P o a w K Q else E := by
  have hw : Region.wanted o (yielded ops a.tmps) = true := by simp [Region.wanted, hgd]
  rw [if_pos hw]
  unfold Oper.wp execOp
  have hf : a.eval (.func f) = .func (.func f) #[] #[] := rfl
  simp only [ho, resolve, invoke, Sem.run_bind, hx, hf]
  simp [Deferred.ofValue, hen, Oper.upon_enter]
  refine hc.mono ?_
  rintro e w' ⟨v, rfl, hp⟩
  exact h v w' hp
/-- The same with one argument; with two. -/
theorem step_call1 {P : Program} {w : World} {ops : Array Oper} {o : Oper} {a : Act} {K : Act → World → Prop} {Q : Exit → Act → World → Prop} {E : Prop} (hgd : o.guard = none) (f : FuncId) (x : Operand) (tx : Array TypeId)
    (ho : o.op = .call { callee := .value (.func f), args := #[x], argTypes := tx }) (hen : ∀ ag w, (callFunc f ag).run P w = .ok (.enter f ag) w) (xv : Value) (hx : a.eval x = xv) (Post : Value → World → Prop)
    (hc : Calls P f #[xv] w fun e w' => ∃ v, e = .returned v ∧ Post v w') (h : ∀ v w', Post v w' → K (a.put o.dst v) w') : if Region.wanted o (yielded ops a.tmps) = true then Oper.wp P o a w K Q else E :=
  step_call_ex hgd f #[x] tx ho hen #[xv] (by simp [hx]) Post hc h
theorem step_call2 {P : Program} {w : World} {ops : Array Oper} {o : Oper} {a : Act} {K : Act → World → Prop} {Q : Exit → Act → World → Prop} {E : Prop} (hgd : o.guard = none) (f : FuncId) (x y : Operand) (tx : Array TypeId)
    (ho : o.op = .call { callee := .value (.func f), args := #[x, y], argTypes := tx }) (hen : ∀ ag w, (callFunc f ag).run P w = .ok (.enter f ag) w) (xv yv : Value) (hx : a.eval x = xv) (hy : a.eval y = yv) (Post : Value → World → Prop)
    (hc : Calls P f #[xv, yv] w fun e w' => ∃ v, e = .returned v ∧ Post v w') (h : ∀ v w', Post v w' → K (a.put o.dst v) w') : if Region.wanted o (yielded ops a.tmps) = true then Oper.wp P o a w K Q else E :=
  step_call_ex hgd f #[x, y] tx ho hen #[xv, yv] (by simp [hx, hy]) Post hc h
theorem ent_small : ∀ ag w, (callFunc 54 ag).run Tryz.prog w = .ok (.enter 54 ag) w := enters_of Tryz.func54 (by kernel_rfl) rfl
set_option maxRecDepth 100000 in
set_option maxHeartbeats 2000000 in
theorem rHex (s : ByteArray) (w : World) (hs : s.size ≤ 35184372088832) : Calls Tryz.prog 31 #[.string s] w fun e w' => e = .returned (.string (sOf (hexL (lOf s)))) ∧ Below w.heap.size w w' := by
  go_enter Tryz.func31, Tryz.ntmps31
  go_wp2
  go_loopw [3, 4] (fun v i wr => ∃ k : Nat, k ≤ s.size ∧ i = .int .i64 k ∧ Buf wr w.heap.size v (hexL ((lOf s).take k)) ∧ Below w.heap.size w wr) (fun _ i _ => s.size - (intOf i).toNat)
  case atStart => exact ⟨0, Nat.zero_le _, rfl, Buf.nil _ _, Below.refl _ _⟩
  case round =>
    obtain ⟨k, hk, rfl, hB, HB⟩ := hrel
    by_cases hlt : k < s.size
    · obtain ⟨c, hcx⟩ : ∃ c, Hid (c = ch s k) := ⟨_, rfl⟩
      have ix : ∀ w : World, (Instr.index 9 (.string s) (.int .i64 (k : Int))).run Tryz.prog w = .ok (.int .u8 (c : Int)) w := fun w => by rw [hcx.out]; exact idx (w := w) s k hlt .i64
      have hc : c < 256 := by rw [hcx.out]; exact ch_lt s k
      have hlen : (hexL ((lOf s).take k)).length + 2 ≤ 140737488355328 := by rw [hexL_length, List.length_take, lOf_length]; omega
      have s1 : ∀ w, Calls Tryz.prog 54 #[.int .u8 (IntKind.u8.wrap ((c : Int) / 16))] w fun e w' => ∃ v, e = .returned v ∧ (v = .int .u8 (hexc (c / 16) : Nat) ∧ w' = w) := fun w => by
        have := rsmall (c / 16) (by omega) w
        rw [show ((c / 16 : Nat) : Int) = IntKind.u8.wrap ((c : Int) / 16) by rw [IntKind.wrap_u8']; omega] at this
        exact this.mono fun e w' ⟨h1, h2⟩ => ⟨_, h1, rfl, h2⟩
      have s2 : ∀ w, Calls Tryz.prog 54 #[.int .u8 ((c : Int).tmod 16)] w fun e w' => ∃ v, e = .returned v ∧ (v = .int .u8 (hexc (c % 16) : Nat) ∧ w' = w) := fun w => by
        have := rsmall (c % 16) (by omega) w
        rw [show ((c % 16 : Nat) : Int) = (c : Int).tmod 16 by rw [Int.tmod_eq_emod_of_nonneg (by omega)]; omega] at this
        exact this.mono fun e w' ⟨h1, h2⟩ => ⟨_, h1, rfl, h2⟩
      obtain ⟨v', w', hrun, hbuf, hbel⟩ := Buf.append (w := (wr.alloc (.cells #[.int .u8 (hexc (c / 16) : Nat), .int .u8 (hexc (c % 16) : Nat)] 5)).drew) (B := w.heap.size) (v := u3) (L := hexL ((lOf s).take k)) (tx := 45) (M := [hexc (c / 16), hexc (c % 16)])
        (hB.below (bel1 wr _).drew) (src_lit _ wr.heap.size 2 2 _ rfl (heap_alloc_new wr _)) hlen (by have := HB.size; simp; omega)
      have HB2 : Hid (Below w.heap.size w w') := HB.trans ((((Below.refl _ wr).alloc HB.size _).drew).trans hbel)
      clear hB hbel hlen
      go_wp2_with fail
      go_region_law (first
        | (refine step_append_ex ?_ (.tmp 11) (.tmp 22) _ _ ?_ _ _ ?_ ?_ (fun a b => a = v' ∧ b = w') ⟨v', w', hrun, rfl, rfl⟩ ?_; rfl; rfl; rfl; rfl; rintro _ _ ⟨rfl, rfl⟩)
        | (refine step_call1 ?_ _ (.tmp 15) #[5] ?_ ent_small _ ?_ _ (s1 _) ?_; rfl; rfl; rfl; rintro _ _ ⟨rfl, rfl⟩)
        | (refine step_call1 ?_ _ (.tmp 20) #[5] ?_ ent_small _ ?_ _ (s2 _) ?_; rfl; rfl; rfl; rintro _ _ ⟨rfl, rfl⟩))
      all_goals
        go_wp2_with fail
        go_roundw
        case rel =>
          refine ⟨k + 1, by omega, by go_num, ?_, HB2.out⟩
          rw [take_succ_ch s k hlt, ← hcx.out]
          unfold hexL
          rw [List.flatMap_append]
          exact hbuf
        case measure => simp [intOf]; omega
    · obtain rfl : k = s.size := by omega
      have hcv := hB.conv
      rw [take_all] at hcv
      go_wp2
      go_ret
      exact ⟨rfl, HB⟩
end Go.Proofs.YtmnjpkeeoeoegaaGreatDoor

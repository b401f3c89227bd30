/- Package look's reader: name. -/
import Derived.Test.YtfikmlckcbnppaaDoorLpR
import Derived.Test.YtfikmlckcbnppaaDoorILw
import Derived.Ground.MpProg
import Derived.Shelf.Pu.Clone
namespace Go.Proofs
open Go.Shelf
def Tryd.laysPu25_ren : Go.Shelf.Ren := ⟨fun | 25 => 43 | n => n, fun | 9 => 9 | 3 => 3 | 4 => 4 | 37 => 37 | 0 => 0 | 47 => 76 | 5 => 5 | n => n, fun | n => n⟩
theorem Tryd.laysPu25 : Go.Proofs.LaysPu.n25 Tryd.prog Tryd.laysPu25_ren := {
  mixed := by kernel_rfl
  f25 := Tryd.func43.trans (congrArg some (by kernel_rfl))
  t0 := Tryd.underlying0
  a0 := Tryd.isAgg0
  z0 := Tryd.sizeOf0
  v0 := Tryd.zeroValue0
  i0 := by kernel_rfl
  t3 := Tryd.underlying3
  a3 := Tryd.isAgg3
  z3 := Tryd.sizeOf3
  v3 := Tryd.zeroValue3
  i3 := by kernel_rfl
  t4 := Tryd.underlying4
  a4 := Tryd.isAgg4
  z4 := Tryd.sizeOf4
  v4 := Tryd.zeroValue4
  i4 := by kernel_rfl
  t5 := Tryd.underlying5
  a5 := Tryd.isAgg5
  z5 := Tryd.sizeOf5
  v5 := Tryd.zeroValue5
  i5 := by kernel_rfl
  t9 := Tryd.underlying9
  a9 := Tryd.isAgg9
  z9 := Tryd.sizeOf9
  v9 := Tryd.zeroValue9
  i9 := by kernel_rfl
  t37 := Tryd.underlying37
  a37 := Tryd.isAgg37
  z37 := Tryd.sizeOf37
  v37 := Tryd.zeroValue37
  i37 := by kernel_rfl
  t47 := Tryd.underlying76
  a47 := Tryd.isAgg76
  z47 := Tryd.sizeOf76
  v47 := Tryd.zeroValue76
  i47 := by kernel_rfl }
end Go.Proofs
namespace Go.Proofs.YtfikmlckcbnppaaDoor
open Go.ChangeShapes Go.WideShapes Go.ChangeAt Go.RowKit Go.Shelf

theorem strClone0 (s : ByteArray) (w : World) (hs : s.size ≤ 281474976710656) : Calls Tryd.prog 43 #[.string s] w fun e w' => e = .returned (.string s) ∧ Below w.heap.size w w' :=
  AnyPu.stringslite_Clone Tryd.laysPu25 s w hs
theorem strClone (s : ByteArray) (w : World) (hs : s.size ≤ 281474976710656) : Calls Tryd.prog 40 #[.string s] w fun e w' => e = .returned (.string s) ∧ Below w.heap.size w w' := by
  have hcon := fun w => strClone0 s w hs
  go_enter Tryd.func40, Tryd.ntmps40
  go_wp2_with (go_at_call 43; refine (hcon _).mono ?_; rintro e w' ⟨rfl, hB⟩)
  go_ret
  exact ⟨rfl, hB⟩
theorem ent_sym : ∀ ag w, (callFunc 25 ag).run Tryd.prog w = .ok (.enter 25 ag) w := enters_of Tryd.func25 (by kernel_rfl) rfl
theorem ent_clone : ∀ ag w, (callFunc 40 ag).run Tryd.prog w = .ok (.enter 40 ag) w := enters_of Tryd.func40 (by kernel_rfl) rfl
def plcR (w : World) (R : Nat) : Nat := (RowKit.intOf ((w.cell? ⟨R, 1, none⟩).getD undef)).toNat
theorem plc_of {w : World} {R a : Nat} (h : w.cell? ⟨R, 1, none⟩ = some (.int .i64 (a : Int))) : plcR w R = a := by
  unfold plcR
  rw [h]
  simp [RowKit.intOf]
theorem nmE_stop {s : ByteArray} {a b : Nat} (h : ¬ (b < s.size ∧ b - a < 64 ∧ symC (ch s b) (decide (b = a)) = true)) : nmE s a (64 - (b - a)) b = b := by
  cases hk : 64 - (b - a) with
  | zero => rfl
  | succ k =>
    unfold nmE
    rw [if_neg (fun hh => h ⟨hh.1, by omega, hh.2⟩)]
theorem nmE_go {s : ByteArray} {a b : Nat} (hab : a ≤ b) (h : b < s.size ∧ b - a < 64 ∧ symC (ch s b) (decide (b = a)) = true) : nmE s a (64 - (b - a)) b = nmE s a (64 - (b + 1 - a)) (b + 1) := by
  obtain ⟨k, hk⟩ : ∃ k, 64 - (b - a) = k + 1 := ⟨64 - (b - a) - 1, by omega⟩
  rw [hk, nmE, if_pos ⟨h.1, h.2.2⟩]
  congr 1
  omega
/-- Where name stands. -/
structure NmS (s : ByteArray) (a b : Nat) : Prop where
  ab : a ≤ b
  bs : b ≤ s.size
  b64 : b - a ≤ 64
  all : ∀ i, a ≤ i → i < b → symC (ch s i) (decide (i = a)) = true
  e : nmE s a (64 - (b - a)) b = nmE s a 64 a
set_option maxRecDepth 20000 in
set_option maxHeartbeats 4000000 in
theorem name_any (R : Nat) (s : ByteArray) (a : Nat) (hs : s.size ≤ 281474976710656) (ha : a ≤ s.size) (w w0 : World) (h : Rd w0 R s a w) : Calls Tryd.prog 32 #[.pointer (some ⟨R, 0, none⟩)] w fun e w' => Rd w0 R s (nmE s a 64 a) w' ∧ ((nmE s a 64 a = a ∧ e = .panicked [pvE]) ∨ (nmE s a 64 a ≠ a ∧ e = .returned (.string (s.extract a (nmE s a 64 a))))) := by
  obtain ⟨E, hE⟩ : ∃ E, nmE s a 64 a = E := ⟨_, rfl⟩
  rw [hE]
  replace hE : Hid _ := ⟨hE⟩
  have k1 := h.ra.h1
  have H0 : Hid (NmS s a a ∧ Rd w0 R s a w) := ⟨⟨Nat.le_refl _, ha, by omega, fun i h1 h2 => by omega, by rw [Nat.sub_self]⟩, h⟩
  clear h
  go_enter Tryd.func32, Tryd.ntmps32
  go_wp2_with fail
  go_loopw [] (fun wr => ∃ b : Nat, Hid (NmS s a b ∧ Rd w0 R s b wr)) (fun wr => s.size - plcR wr R)
  case atStart => exact ⟨a, H0⟩
  case round =>
    clear H0 k1
    obtain ⟨b, hI⟩ := hrel
    obtain ⟨p, p0, pN, pE, pI, k0, k1⟩ := rd_class hI.out.2
    have hbs := hI.out.1.bs
    have hbi : (b : Int) ≤ 281474976710656 := by omega
    have hab := hI.out.1.ab
    have habI : (a : Int) ≤ b := by omega
    by_cases hlt : b < s.size
    · have d1 : decide ((b : Int) < (s.size : Int)) = true := decide_eq_true (by omega)
      have d1n : decide (b < s.size) = true := decide_eq_true hlt
      have hb1 : (b : Int) + 1 ≤ s.size := by omega
      have hab1 : (a : Int) ≤ (b : Int) + 1 := by omega
      cases hS : symbolB (s.extract a (b + 1)) with
      | true =>
        have hNx : Hid (NmS s a (b + 1)) := ⟨by
          have h64 : b - a < 64 := by
            rcases Nat.lt_or_ge (b - a) 64 with h | h
            · exact h
            · rw [sym_long hlt h] at hS
              cases hS
          have hc : symC (ch s b) (decide (b = a)) = true := by rw [← sym_piece hlt hab hI.out.1.all h64]; exact hS
          refine ⟨by omega, by omega, by omega, fun i h1 h2 => ?_, ?_⟩
          · by_cases e : i = b
            · rw [e]; exact hc
            · exact hI.out.1.all i h1 (by omega)
          · rw [← hI.out.1.e]
            exact (nmE_go hab ⟨hlt, h64, hc⟩).symm⟩
        have cSy : Hid (∀ W, p W → Calls Tryd.prog 25 #[.string (s.extract a (b + 1))] W fun e w' => e = .returned (.bool true) ∧ p w') := ⟨fun W hW => (Symbol_any _ (by rw [size_ext s a (b + 1) (by omega)]; omega) W).mono fun e w' hP => ⟨by rw [hP.1, hS], by rw [hP.2]; exact hW⟩⟩
        go_wp2_with fail
        refine wp_region_pp p [0, 1, 2, 3, 4, 5, 6, 7, 8, 9, 10, 11, 12, 13, 14, 15, 16, 17, 18, 19, 20, 21, 22, 23] (by kernel_rfl) (by kernel_rfl) (fun _ _ d _ _ h => by cases d <;> exact h) p0 ?_
        simp only [List.filterMap_cons, List.filterMap_nil, List.getElem?_cons_zero, List.getElem?_cons_succ]
        generalize wr.drew = W at p0 ⊢
        repeat (first
          | (guard_target =~ Lx _ _ _ _ (Oper.mk _ (Op.call { callee := Callee.value (Operand.func 25), args := _, argTypes := _ }) _ _ _ _ :: _) _ _; refine lx_p1 ent_sym cSy.out p0 rfl (by rfl) ?_; intro W p0; simp only [pts])
          | (refine lx_one rfl ?_; (first | go_big_quiet_skip | (go_big_quiet_want; go_big_quiet_op; go_big_quiet_on)); refine wpQuiet_nil ?_)
          | (refine lx_skip (by rfl) ?_; simp only [pts]))
        refine lx_done ?_
        have hF := pE _ p0
        have j1 := hF.out.ra.h1
        have j2 := hF.out.ra.fz 1
        have hN : Hid (NmS s a (b + 1) ∧ Rd w0 R s (b + 1) (W.setCell ⟨R, 1, none⟩ (.int .i64 ((b : Int) + 1)))) := ⟨hNx.out, hF.out.put _ (b + 1) (by omega)⟩
        have hM : Hid (plcR (W.setCell ⟨R, 1, none⟩ (.int .i64 ((b : Int) + 1))) R = b + 1) := ⟨plc_of hN.out.2.ra.h1⟩
        have hM0 : Hid (plcR wr R = b) := ⟨plc_of hI.out.2.ra.h1⟩
        clear hI hF hNx k0 k1 pN p0 pE pI cSy hS
        go_wp2_with fail
        go_roundw
        case rel => exact ⟨b + 1, hN⟩
        case measure => rw [hM.out, hM0.out]; omega
      | false =>
        have cSy : Hid (∀ W, p W → Calls Tryd.prog 25 #[.string (s.extract a (b + 1))] W fun e w' => e = .returned (.bool false) ∧ p w') := ⟨fun W hW => (Symbol_any _ (by rw [size_ext s a (b + 1) (by omega)]; omega) W).mono fun e w' hP => ⟨by rw [hP.1, hS], by rw [hP.2]; exact hW⟩⟩
        have hNO : Hid (¬ (b < s.size ∧ b - a < 64 ∧ symC (ch s b) (decide (b = a)) = true)) := ⟨fun ⟨_, h2, h3⟩ => by
          rw [sym_piece hlt hab hI.out.1.all h2, h3] at hS
          cases hS⟩
        clear hS
        go_wp2_with fail
        refine wp_region_pp p [0, 1, 2, 3, 4, 5, 6, 7, 8, 9, 10, 11, 12, 13, 14, 15, 16, 17, 18, 19, 20, 21, 22, 23] (by kernel_rfl) (by kernel_rfl) (fun _ _ d _ _ h => by cases d <;> exact h) p0 ?_
        simp only [List.filterMap_cons, List.filterMap_nil, List.getElem?_cons_zero, List.getElem?_cons_succ]
        generalize wr.drew = W at p0 ⊢
        repeat (first
          | (guard_target =~ Lx _ _ _ _ (Oper.mk _ (Op.call { callee := Callee.value (Operand.func 25), args := _, argTypes := _ }) _ _ _ _ :: _) _ _; refine lx_p1 ent_sym cSy.out p0 rfl (by rfl) ?_; intro W p0; simp only [pts])
          | (refine lx_one rfl ?_; (first | go_big_quiet_skip | (go_big_quiet_want; go_big_quiet_op; go_big_quiet_on)); refine wpQuiet_nil ?_)
          | (refine lx_skip (by rfl) ?_; simp only [pts]))
        refine lx_done ?_
        obtain rfl : E = b := by rw [← hE.out, ← hI.out.1.e]; exact nmE_stop hNO.out
        have hF := pE _ p0
        by_cases hba : E = a
        · obtain rfl : a = E := hba.symm
          have cN := needSome_no R s a _ w0 hF.out
          clear hI hF k0 k1 pN p0 pE pI
          go_wp2_with (go_at_call 39; refine cN.mono ?_; rintro _ w1 ⟨rfl, h1⟩)
          exact ⟨rfl, h1, rfl⟩
        · have cN := needSome_ok R s E a hba _ w0 hF.out
          have hbsI : (E : Int) ≤ s.size := by omega
          clear hI hF k0 k1 pN p0 pE pI
          go_wp2_with (go_at_call 39; refine cN.mono ?_; rintro _ w1 ⟨rfl, h1⟩)
          obtain ⟨p, p0, pN, pE, pI, k0, k1⟩ := rd_class h1
          have cCl : Hid (∀ W, p W → Calls Tryd.prog 40 #[.string (s.extract a E)] W fun e w' => e = .returned (.string (s.extract a E)) ∧ p w') := ⟨fun W hW => (strClone _ W (by rw [size_ext s a E (by omega)]; omega)).mono fun e w' hP => ⟨hP.1, pI _ ((pE _ hW).out.below hP.2)⟩⟩
          clear h1 pI
          refine wp_region_pp p [0, 1, 2, 3, 4, 5, 6, 7, 8, 9, 10, 11] (by kernel_rfl) (by kernel_rfl) (fun _ _ d _ _ h => by cases d <;> exact h) p0 ?_
          simp only [List.filterMap_cons, List.filterMap_nil, List.getElem?_cons_zero, List.getElem?_cons_succ]
          generalize w1.drew = W at p0 ⊢
          repeat (first
            | (guard_target =~ Lx _ _ _ _ (Oper.mk _ (Op.call { callee := Callee.value (Operand.func 40), args := _, argTypes := _ }) _ _ _ _ :: _) _ _; refine lx_p1 ent_clone cCl.out p0 rfl (by rfl) ?_; intro W p0; simp only [pts])
            | (refine lx_one rfl ?_; (first | go_big_quiet_skip | (go_big_quiet_want; go_big_quiet_op; go_big_quiet_on)); refine wpQuiet_nil ?_)
            | (refine lx_skip (by rfl) ?_; simp only [pts]))
          refine lx_done ?_
          have hF := pE _ p0
          clear k0 k1 pN p0 pE cCl cN
          go_wp2_with fail
          go_ret
          exact ⟨hF.out, .inr ⟨hba, rfl⟩⟩
    · have d1 : decide ((b : Int) < (s.size : Int)) = false := decide_eq_false (by omega)
      have d1n : decide (b < s.size) = false := decide_eq_false hlt
      go_wp2_with fail
      refine wp_region_pp p [0, 1, 2, 3, 4, 5, 6, 7, 8, 9, 10, 11, 12, 13, 14, 15, 16, 17, 18, 19, 20, 21, 22, 23] (by kernel_rfl) (by kernel_rfl) (fun _ _ d _ _ h => by cases d <;> exact h) p0 ?_
      simp only [List.filterMap_cons, List.filterMap_nil, List.getElem?_cons_zero, List.getElem?_cons_succ]
      generalize wr.drew = W at p0 ⊢
      repeat (first
        | (guard_target =~ Lx _ _ _ _ (Oper.mk _ (Op.call { callee := Callee.value (Operand.func 25), args := _, argTypes := _ }) _ _ _ _ :: _) _ _; refine lx_p1 ent_sym cSy.out p0 rfl (by rfl) ?_; intro W p0; simp only [pts])
        | (refine lx_one rfl ?_; (first | go_big_quiet_skip | (go_big_quiet_want; go_big_quiet_op; go_big_quiet_on)); refine wpQuiet_nil ?_)
        | (refine lx_skip (by rfl) ?_; simp only [pts]))
      refine lx_done ?_
      obtain rfl : E = b := by rw [← hE.out, ← hI.out.1.e]; exact nmE_stop fun hh => hlt hh.1
      have hF := pE _ p0
      by_cases hba : E = a
      · obtain rfl : a = E := hba.symm
        have cN := needSome_no R s a _ w0 hF.out
        clear hI hF k0 k1 pN p0 pE pI
        go_wp2_with (go_at_call 39; refine cN.mono ?_; rintro _ w1 ⟨rfl, h1⟩)
        exact ⟨rfl, h1, rfl⟩
      · have cN := needSome_ok R s E a hba _ w0 hF.out
        have hbsI : (E : Int) ≤ s.size := by omega
        clear hI hF k0 k1 pN p0 pE pI
        go_wp2_with (go_at_call 39; refine cN.mono ?_; rintro _ w1 ⟨rfl, h1⟩)
        obtain ⟨p, p0, pN, pE, pI, k0, k1⟩ := rd_class h1
        have cCl : Hid (∀ W, p W → Calls Tryd.prog 40 #[.string (s.extract a E)] W fun e w' => e = .returned (.string (s.extract a E)) ∧ p w') := ⟨fun W hW => (strClone _ W (by rw [size_ext s a E (by omega)]; omega)).mono fun e w' hP => ⟨hP.1, pI _ ((pE _ hW).out.below hP.2)⟩⟩
        clear h1 pI
        refine wp_region_pp p [0, 1, 2, 3, 4, 5, 6, 7, 8, 9, 10, 11] (by kernel_rfl) (by kernel_rfl) (fun _ _ d _ _ h => by cases d <;> exact h) p0 ?_
        simp only [List.filterMap_cons, List.filterMap_nil, List.getElem?_cons_zero, List.getElem?_cons_succ]
        generalize w1.drew = W at p0 ⊢
        repeat (first
          | (guard_target =~ Lx _ _ _ _ (Oper.mk _ (Op.call { callee := Callee.value (Operand.func 40), args := _, argTypes := _ }) _ _ _ _ :: _) _ _; refine lx_p1 ent_clone cCl.out p0 rfl (by rfl) ?_; intro W p0; simp only [pts])
          | (refine lx_one rfl ?_; (first | go_big_quiet_skip | (go_big_quiet_want; go_big_quiet_op; go_big_quiet_on)); refine wpQuiet_nil ?_)
          | (refine lx_skip (by rfl) ?_; simp only [pts]))
        refine lx_done ?_
        have hF := pE _ p0
        clear k0 k1 pN p0 pE cCl cN
        go_wp2_with fail
        go_ret
        exact ⟨hF.out, .inr ⟨hba, rfl⟩⟩
end Go.Proofs.YtfikmlckcbnppaaDoor

/- The document's Print. -/
import Derived.Test.YtchfphakhmifmaaGreatDoorTPv
import Derived.Test.YtchfphakhmifmaaGreatDoorTPx
import Derived.Test.YtchfphakhmifmaaGreatDoorTRh
namespace Go.Proofs.YtchfphakhmifmaaGreatDoor
open Go.ChangeShapes Go.WideShapes Go.ChangeAt Go.RowKit Go.Lib

theorem pin_of {es : List El} (hz : PSz es) (h : (chkZ es).1 = 0) : PIn es :=
  ⟨hz.n, fun e he => ⟨(tr_mem es 0 (chk_tr h) e he).1, (tr_mem es 0 (chk_tr h) e he).2.1⟩, fun e he => by
    obtain ⟨h1, h2, h3, h4⟩ := hz.s e he
    exact ⟨by omega, by omega, h3, fun a ha => by have := h4 a ha; omega⟩⟩
set_option maxRecDepth 100000 in
set_option maxHeartbeats 4000000 in
theorem refPrint_any (pp : Option Addr) (cp : Nat) (es : List El) (w : World) (hr : ERow w pp w.heap.size es) (hz : PSz es) :
    Calls Tryz.prog 9 #[.slice pp es.length cp] w fun e w' => e = .returned (.tuple #[.string (sOf (prtZ es).1), .int .i64 ((prtZ es).2.1 : Int), .int .i64 ((prtZ es).2.2 : Int)]) ∧ Below w.heap.size w w' := by
  have cC := refCheck_any pp cp es w hr hz
  by_cases h0 : (chkZ es).1 = 0
  · rw [chk_zero h0] at cC
    have hz2 : prtZ es = (if (prtS 16 es).length ≤ 1048576 then (prtS 16 es, 0, 0) else ([], 45, es.length)) := by unfold prtZ; rw [if_pos h0]
    obtain ⟨x, hx⟩ : ∃ x, es[0]? = some x := by
      have := (chk_len h0).2
      cases es with
      | nil => exact absurd rfl this
      | cons a b => exact ⟨a, rfl⟩
    have hxd := (tr_mem es 0 (chk_tr h0) x (List.mem_of_getElem? hx)).1
    have cP : Hid (∀ W, Below w.heap.size w W → Calls Tryz.prog 26 #[.slice none 0 0, .slice pp es.length cp, .int .i64 0] W fun e w' => ∃ p c, e = .returned (.slice p (prtS 16 es).length c) ∧ Buf w' W.heap.size (.slice p (prtS 16 es).length c) (prtS 16 es) ∧ Below W.heap.size W w') := Hid.mkV fun W hW => by
      have := printed_any es pp cp (pin_of hz h0) 16 0 x W.heap.size (.slice none 0 0) [] W hx (by omega) (Buf.nil W _) (Nat.le_refl _) ((hr.below hW).mono hW.size) (by
        rw [List.drop_zero]
        have := prt_len hz h0
        simpa using this)
      refine this.mono ?_
      rintro e w' ⟨v', rfl, hu, hk⟩
      rw [List.drop_zero, List.nil_append] at hu
      obtain ⟨p, c, rfl⟩ := hu.shape
      exact ⟨p, c, rfl, hu, hk.below (Buf.nil W W.heap.size) (Nat.le_refl _)⟩
    have hlen := (chk_len h0).1
    have hPl := prt_len hz h0
    rw [hz2]
    clear hr hz hz2 hx hxd h0
    generalize prtS 16 es = P at *
    by_cases hl : P.length ≤ 1048576
    · rw [if_pos hl]
      have hl2 : ¬ (1048576 : Int) < P.length := by omega
      have hl3 : decide ((1048576 : Int) < P.length) = false := decide_eq_false hl2
      go_enter Tryz.func9, Tryz.ntmps9
      go_wp2_with fail
      refine cC.mono ?_
      rintro _ w1 ⟨rfl, hb1⟩
      go_wp2_with fail
      refine (cP.out w1 hb1).mono ?_
      rintro _ w2 ⟨p, c, rfl, hu, hb2⟩
      have hcv := hu.conv
      go_wp2_with fail
      exact bodyPost_ret (v := .tuple #[.string (sOf P), .int .i64 0, .int .i64 0]) (by simp [results, Tryz.results9, go_sem]) rfl ⟨rfl, hb1.trans (hb2.mono hb1.size)⟩
    · rw [if_neg hl]
      have hl2 : (1048576 : Int) < P.length := by omega
      have hl3 : decide ((1048576 : Int) < P.length) = true := decide_eq_true hl2
      go_enter Tryz.func9, Tryz.ntmps9
      go_wp2_with fail
      refine cC.mono ?_
      rintro _ w1 ⟨rfl, hb1⟩
      go_wp2_with fail
      refine (cP.out w1 hb1).mono ?_
      rintro _ w2 ⟨p, c, rfl, hu, hb2⟩
      go_wp2_with fail
      exact bodyPost_ret (v := .tuple #[.string ⟨#[]⟩, .int .i64 45, .int .i64 (es.length : Int)]) (by simp [results, Tryz.results9, go_sem]) rfl ⟨rfl, hb1.trans (hb2.mono hb1.size)⟩
  · have hz2 : prtZ es = ([], (chkZ es).1, (chkZ es).2) := by unfold prtZ; rw [if_neg h0]
    rw [hz2]
    have z1 : (((chkZ es).1 : Int) == 0) = false := beq_eq_false_iff_ne.2 (by omega)
    have z2 : (((chkZ es).1 : Int) != 0) = true := by rw [bne, z1]; rfl
    clear hz2 hr hz
    generalize chkZ es = q at *
    obtain ⟨a, b⟩ := q
    simp only at z1 z2 cC ⊢
    go_enter Tryz.func9, Tryz.ntmps9
    go_wp2_with fail
    refine cC.mono ?_
    rintro _ w1 ⟨rfl, hb1⟩
    go_wp2_with fail
    exact bodyPost_ret (v := .tuple #[.string ⟨#[]⟩, .int .i64 (a : Int), .int .i64 (b : Int)]) (by simp [results, Tryz.results9, go_sem]) rfl ⟨rfl, hb1⟩
end Go.Proofs.YtchfphakhmifmaaGreatDoor

/- The tree's printer: Print. -/
import Derived.Test.YtchfphakhmifmaaGreatDoorTPy
import Derived.Test.YtchfphakhmifmaaGreatDoorTPw
namespace Go.Proofs.YtchfphakhmifmaaGreatDoor
open Go.ChangeShapes Go.WideShapes Go.ChangeAt Go.RowKit Go.Lib

/-- How long the pieces' texts are. -/
theorem pcs_ok (N : Nat) : ∀ (r : List El) (st : List ByteArray), (∀ e ∈ r, e.nm.size ≤ N ∧ e.tx.size ≤ N ∧ ∀ a ∈ e.ats, a.nm.size ≤ N ∧ a.vl.size ≤ N) → (∀ nm ∈ st, nm.size ≤ N) → ∀ t ∈ pcsF r st, t.nm.size ≤ N ∧ t.vl.size ≤ N
  | [], st, _, hst, t, ht => by
    unfold pcsF shutL at ht
    obtain ⟨nm, hm, rfl⟩ := List.mem_map.1 ht
    exact ⟨hst nm (List.mem_of_mem_take hm), Nat.zero_le _⟩
  | e :: r, st, hr, hst, t, ht => by
    obtain ⟨h1, h2, h3⟩ := hr e (by simp)
    have hcut : ∀ nm ∈ cutS st (e.d - 1).toNat, nm.size ≤ N := fun nm hm => hst nm (List.mem_of_mem_drop hm)
    unfold pcsF at ht
    rcases List.mem_append.1 ht with ht | ht
    · unfold shutL at ht
      obtain ⟨nm, hm, rfl⟩ := List.mem_map.1 ht
      exact ⟨hst nm (List.mem_of_mem_take hm), Nat.zero_le _⟩
    · rcases List.mem_append.1 ht with ht | ht
      · unfold putP at ht
        rcases List.mem_cons.1 ht with rfl | ht
        · exact ⟨h1, Nat.zero_le _⟩
        · rcases List.mem_append.1 ht with ht | ht
          · obtain ⟨a, ha, rfl⟩ := List.mem_map.1 ht
            exact h3 a ha
          · split at ht
            · obtain rfl : t = pcM := by simpa using ht
              exact ⟨Nat.zero_le _, Nat.zero_le _⟩
            · rcases List.mem_cons.1 ht with rfl | ht
              · exact ⟨Nat.zero_le _, Nat.zero_le _⟩
              · split at ht
                · cases ht
                · obtain rfl : t = pcT e.tx := by simpa using ht
                  exact ⟨Nat.zero_le _, h2⟩
      · refine pcs_ok N r _ (fun x hx => hr x (by simp [hx])) (fun nm hm => ?_) t ht
        unfold putS at hm
        split at hm
        · exact hcut nm hm
        · rcases List.mem_cons.1 hm with rfl | hm
          · exact h1
          · exact hcut nm hm
theorem flat_len (N : Nat) : ∀ ts : List IT, (∀ t ∈ ts, t.nm.size ≤ N ∧ t.vl.size ≤ N) → (flatL ts).length ≤ ts.length * (8 + 7 * N)
  | [], _ => Nat.zero_le _
  | t :: ts, h => by
    have ih := flat_len N ts fun x hx => h x (by simp [hx])
    have h1 := h t (by simp)
    have h2 := wrB_size t.k.toNat t.nm t.vl
    rw [flatL_cons, List.length_append, lOf_length, List.length_cons, Nat.add_mul]
    omega
theorem prt_len {es : List El} (hz : PSz es) (h : (chkZ es).1 = 0) : (prtS 16 es).length ≤ 140737488355328 := by
  rw [← pcs_all h]
  have h1 := flat_len 1048576 (pcsF es []) (pcs_ok 1048576 es [] (fun e he => ⟨(hz.s e he).1, (hz.s e he).2.1, (hz.s e he).2.2.2⟩) (fun nm hm => by cases hm))
  have h2 := pcsF_len es 0 [] (chk_tr h)
  have h3 := (chk_len h).1
  have h4 : (pcsF es []).length ≤ 560000 := by simp at h2; omega
  refine Nat.le_trans h1 (Nat.le_trans (Nat.mul_le_mul_right _ h4) (by decide))
set_option maxRecDepth 100000 in
set_option maxHeartbeats 4000000 in
theorem tPrint_any (pp : Option Addr) (cp : Nat) (es : List El) (w : World) (hr : EC w pp w.heap.size es) (hz : PSz es) (hE : Env w) (hS : ShpTab w) (h7 : 7 ≤ w.heap.size) :
    Calls Tryz.prog 14 #[.slice pp es.length cp] w fun e w' => e = .returned (.tuple #[.string (sOf (prtZ es).1), .int .i64 ((prtZ es).2.1 : Int), .int .i64 ((prtZ es).2.2 : Int)]) ∧ Below w.heap.size w w' := by
  have cC := tCheck_any pp cp es w hr hz
  by_cases h0 : (chkZ es).1 = 0
  · rw [chk_zero h0] at cC
    have hz2 : prtZ es = (if (prtS 16 es).length ≤ 1048576 then (prtS 16 es, 0, 0) else ([], 45, es.length)) := by unfold prtZ; rw [if_pos h0]
    have hlen := (chk_len h0).1
    have cP : Hid (∀ W, Below w.heap.size w W → Calls Tryz.prog 28 #[.slice pp es.length cp] W fun e w' => ∃ g cap, e = .returned (.slice (some ⟨g, 0, none⟩) (pcsF es []).length cap) ∧ IRow w' (some ⟨g, 0, none⟩) w'.heap.size (pcsF es []) ∧ Below W.heap.size W w') := Hid.mkP fun W hW => by
      refine (pieces_any2 pp cp es W ((hr.below hW).mono hW.size).erow (chk_tr h0) hlen).mono ?_
      rintro e w' ⟨v, rfl, ho, hb⟩
      have hne : 0 < (pcsF es []).length := by
        have := (chk_len h0).2
        cases es with
        | nil => exact absurd rfl this
        | cons x r => unfold pcsF putP; simp only [List.length_append, List.length_cons]; omega
      obtain ⟨g, cap, rfl⟩ := own_shape ho hne
      have hg := (ownLt ho (k := g) rfl).2
      refine ⟨g, cap, rfl, IRow.of_own (bl := []) (by rw [List.append_nil]; exact ho) hg, hb⟩
    have hok : ∀ t ∈ pcsF es [], t.ok := fun t ht => by
      have := pcs_ok 1048576 es [] (fun e he => ⟨(hz.s e he).1, (hz.s e he).2.1, (hz.s e he).2.2.2⟩) (fun nm hm => by cases hm) t ht
      exact ⟨by omega, by omega⟩
    have hPl : (pcsF es []).length ≤ 560000 := by have := pcsF_len es 0 [] (chk_tr h0); simp at this; omega
    have hpr := pr_of (pcsF es []) 0 (-1) [] (chn_all h0)
    rw [pcs_all h0] at hpr
    have cX : Hid (∀ W g cap, Below w.heap.size w W → IRow W (some ⟨g, 0, none⟩) W.heap.size (pcsF es []) → Calls Tryz.prog 18 #[.slice (some ⟨g, 0, none⟩) (pcsF es []).length cap] W fun e w' => e = .returned (.tuple #[.string (sOf (prZ (pcsF es []) 0 (-1) []).1), .int .i64 ((prZ (pcsF es []) 0 (-1) []).2.1 : Int), .int .i64 ((prZ (pcsF es []) 0 (-1) []).2.2 : Int)]) ∧ Below W.heap.size W w') := Hid.mkP fun W g cap hW hI =>
      Print_any _ cap _ W hI (by omega) hok (hE.below hW h7) (hS.below hW h7) (Nat.le_trans h7 hW.size)
    rw [hz2]
    clear hr hz hok hE hS h7 hz2
    generalize pcsF es [] = P at *
    by_cases hl : (prtS 16 es).length ≤ 1048576
    · rw [if_pos hl]
      rw [hpr.1 (by simpa using hl), List.nil_append] at cX
      clear hpr h0
      go_enter Tryz.func14, Tryz.ntmps14
      go_wp2_with fail
      refine cC.mono ?_
      rintro _ w1 ⟨rfl, hb1⟩
      go_wp2_with fail
      refine (cP.out w1 hb1).mono ?_
      rintro _ w2 ⟨g, cap, rfl, hI, hb2⟩
      have hb12 := hb1.trans (hb2.mono hb1.size)
      go_wp2_with fail
      refine (cX.out w2 g cap hb12 hI).mono ?_
      rintro _ w3 ⟨rfl, hb3⟩
      go_wp2_with fail
      exact bodyPost_ret (v := .tuple #[.string (sOf (prtS 16 es)), .int .i64 0, .int .i64 0]) (by simp [results, Tryz.results14, go_sem]) rfl ⟨rfl, hb12.trans (hb3.mono hb12.size)⟩
    · rw [if_neg hl]
      rw [hpr.2 (by simp; omega)] at cX
      clear hpr h0
      go_enter Tryz.func14, Tryz.ntmps14
      go_wp2_with fail
      refine cC.mono ?_
      rintro _ w1 ⟨rfl, hb1⟩
      go_wp2_with fail
      refine (cP.out w1 hb1).mono ?_
      rintro _ w2 ⟨g, cap, rfl, hI, hb2⟩
      have hb12 := hb1.trans (hb2.mono hb1.size)
      go_wp2_with fail
      refine (cX.out w2 g cap hb12 hI).mono ?_
      rintro _ w3 ⟨rfl, hb3⟩
      go_wp2_with fail
      exact bodyPost_ret (v := .tuple #[.string ⟨#[]⟩, .int .i64 45, .int .i64 (es.length : Int)]) (by simp [results, Tryz.results14, go_sem]) rfl ⟨rfl, hb12.trans (hb3.mono hb12.size)⟩
  · have hz2 : prtZ es = ([], (chkZ es).1, (chkZ es).2) := by unfold prtZ; rw [if_neg h0]
    rw [hz2]
    have z1 : (((chkZ es).1 : Int) == 0) = false := beq_eq_false_iff_ne.2 (by omega)
    have z2 : (((chkZ es).1 : Int) != 0) = true := by rw [bne, z1]; rfl
    clear hz2 hr hz hE hS h7
    generalize chkZ es = q at *
    obtain ⟨a, b⟩ := q
    simp only at z1 z2 cC ⊢
    go_enter Tryz.func14, Tryz.ntmps14
    go_wp2_with fail
    refine cC.mono ?_
    rintro _ w1 ⟨rfl, hb1⟩
    go_wp2_with fail
    exact bodyPost_ret (v := .tuple #[.string ⟨#[]⟩, .int .i64 (a : Int), .int .i64 (b : Int)]) (by simp [results, Tryz.results14, go_sem]) rfl ⟨rfl, hb1⟩
end Go.Proofs.YtchfphakhmifmaaGreatDoor

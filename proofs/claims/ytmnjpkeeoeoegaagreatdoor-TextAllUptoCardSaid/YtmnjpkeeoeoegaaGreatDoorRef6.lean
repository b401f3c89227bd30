/- The document's answer: Decode, Check, Chars. -/
import Derived.Test.YtmnjpkeeoeoegaaGreatDoorRef5
import Derived.LoopN
namespace Go.Proofs.YtmnjpkeeoeoegaaGreatDoor
open Go.ChangeShapes Go.WideShapes Go.ChangeAt Go.RowKit

theorem bdt {a b c : World} (HB : Below a.heap.size a b) (hb : Below b.heap.size b c) : Below a.heap.size a c := HB.trans (hb.mono HB.size)
theorem ret_two {a b c d : Int} (h : a = b) (h2 : c = d) : Ending.returned (.tuple #[.int .i64 a, .int .i64 c]) = .returned (.tuple #[.int .i64 b, .int .i64 d]) := by rw [h, h2]
theorem encI_lt (v : Int) : ∀ b ∈ encI v, b < 256 := by
  unfold encI
  by_cases h : goodI v
  · have h' := h
    unfold goodI at h'
    rw [if_pos h]
    unfold encN
    intro b hb
    split at hb
    · simp at hb; omega
    · split at hb
      · simp at hb; omega
      · split at hb
        · simp at hb; omega
        · simp at hb; omega
  · rw [if_neg h]
    intro b hb
    cases hb
theorem hit_iff (s : ByteArray) (n : Nat) (hn : n ≤ s.size) : hitP s n ↔ (encI (vI s n)).length = n ∧ (decide ((sOf (encI (vI s n))).size ≤ s.size) && decide (s.extract 0 (sOf (encI (vI s n))).size = sOf (encI (vI s n)))) = true := by
  unfold hitP
  rw [Bool.and_eq_true, decide_eq_true_eq, decide_eq_true_eq, sOf_size]
  constructor
  · rintro ⟨h1, h2, h3⟩
    refine ⟨h2, by omega, ?_⟩
    rw [h2, ← h3]
    apply lOf_inj
    rw [lOf_extract, List.drop_zero, Nat.sub_zero, lOf_sOf _ (fun b hb => lOf_lt s b (List.mem_of_mem_take hb))]
  · rintro ⟨h1, h2, h3⟩
    refine ⟨hn, h1, ?_⟩
    have h4 := congrArg lOf h3
    rw [lOf_extract, List.drop_zero, Nat.sub_zero, h1, lOf_sOf _ (encI_lt _)] at h4
    exact h4
theorem no_more {s : ByteArray} {n : Nat} (h : ∀ m : Nat, 1 ≤ m → (m : Int) < (n : Int) → ¬ hitP s m) (h2 : ¬ hitP s n) : ∀ m : Nat, 1 ≤ m → (m : Int) < ((n : Int) + 1) → ¬ hitP s m := fun m h1 h3 => by
  by_cases he : m = n
  · rw [he]; exact h2
  · exact h m h1 (by omega)
theorem none_of {s : ByteArray} {n : Int} (h : ∀ m : Nat, 1 ≤ m → (m : Int) < n → ¬ hitP s m) (h2 : ∀ m : Nat, 1 ≤ m → n ≤ (m : Int) → m ≤ 4 → ¬ hitP s m) : seqN s = (0, 0) := by
  have key : ∀ m : Nat, 1 ≤ m → m ≤ 4 → ¬ hitP s m := fun m h1 h4 => by
    by_cases hm : (m : Int) < n
    · exact h m h1 hm
    · exact h2 m h1 (by omega) h4
  exact seq_none s (key 1 (by omega) (by omega)) (key 2 (by omega) (by omega)) (key 3 (by omega) (by omega)) (key 4 (by omega) (by omega))
set_option maxHeartbeats 8000000 in
theorem rDecode (s : ByteArray) (hs : 1 ≤ s.size) (hs2 : s.size ≤ 9223372036854775806) (w : World) : Calls Tryz.prog 34 #[.string s] w fun e w' => e = .returned (.tuple #[.int .i64 ((seqN s).1 : Nat), .int .i64 ((seqN s).2 : Nat)]) ∧ Below w.heap.size w w' := by
  go_enter Tryz.func34, Tryz.ntmps34
  go_wp2_with fail
  go_loopw [4] (fun v wr => ∃ n : Int, 1 ≤ n ∧ n ≤ 5 ∧ v = .int .i64 n ∧ Hid (∀ m : Nat, 1 ≤ m → (m : Int) < n → ¬ hitP s m) ∧ Below w.heap.size w wr) (fun v _ => 5 - (intOf v).toNat)
  case atStart => exact ⟨1, by omega, by omega, rfl, fun m h1 h2 => absurd h2 (by omega), Below.refl _ _⟩
  case round =>
    obtain ⟨n, hn1, hn2, rfl, hno, HB⟩ := hrel
    have : n = 1 ∨ n = 2 ∨ n = 3 ∨ n = 4 ∨ n = 5 := by omega
    clear hn1 hn2
    rcases this with rfl | rfl | rfl | rfl | rfl
    · have hle : 1 ≤ s.size ∨ s.size < 1 := by omega
      rcases hle with hle | hle
      · have d1 : decide ((1 : Int) ≤ (s.size : Int)) = true := by simp; omega
        have i0 : ∀ w : World, (Instr.index 9 (.string s) (.int .i64 0)).run Tryz.prog w = .ok (.int .u8 (ch s 0 : Int)) w := fun w => nidx (w := w) s 0 (by omega) .i64
        have b0 := ch_lt s 0
        obtain ⟨v, hv⟩ : ∃ v, Hid (v = vI s 1) := ⟨_, rfl⟩
        have hE : ∀ w, Calls Tryz.prog 59 #[.int .i64 ((ch s 0 : Int))] w fun e w' => e = .returned (.string (sOf (encI v))) ∧ Below w.heap.size w w' := fun w => by
          have := rEncode (vI s 1) w
          rw [← hv.out] at this
          rw [hv.out] at this ⊢
          exact this
        have hB : ∀ w, Calls Tryz.prog 60 #[.string s, .string (sOf (encI v))] w fun e w' => e = .returned (.bool (decide ((sOf (encI v)).size ≤ s.size) && decide (s.extract 0 (sOf (encI v)).size = sOf (encI v)))) ∧ w' = w := fun w => rbegins s _ w
        have hh : Hid (hitP s 1 ↔ (encI v).length = 1 ∧ (decide ((sOf (encI v)).size ≤ s.size) && decide (s.extract 0 (sOf (encI v)).size = sOf (encI v))) = true) := by
          show _ ↔ _
          rw [hv.out]
          exact hit_iff s 1 hle
        have hr : Hid (hitP s 1 → seqN s = (v.toNat, 1)) := by
          show _ → _
          rw [hv.out]
          exact seq_hit1 s
        have hz : Hid ((sOf (encI v)).size = (encI v).length) := sOf_size _
        have hvn : Hid (hitP s 1 → 0 ≤ v) := by
          show _ → _
          intro hp
          have h1 : v = (ch s 0 : Int) := hv.out
          rw [hit1] at hp
          omega
        have hvv : Hid ((ch s 0 : Int) = v) := hv.out.symm
        clear hv
        generalize encI v = L at hE hB hh hz
        by_cases hL : L.length = 1
        · have e1 : (((sOf L).size : Int) == 1) = true := by rw [hz.out, hL]; rfl
          have hL : Hid (L.length = 1) := hL
          generalize (decide ((sOf L).size ≤ s.size) && decide (s.extract 0 (sOf L).size = sOf L)) = bb at hB hh
          cases bb
          · have hm : Hid (¬ hitP s 1) := fun h => by have := (hh.out.1 h).2; cases this
            go_wp2_with fail
            refine wp_loop_rounds 2 ?_
            rw [rounds_succ]
            go_wp2_with ((first | (go_at_call 59; refine (hE _).mono ?_; rintro e w1 ⟨rfl, hb1⟩; have HB := bdt HB hb1; clear hb1) | (go_at_call 60; refine (hB _).mono ?_; rintro e w1 ⟨rfl, hw1⟩; subst w1)))
            go_round
            case rel => exact ⟨2, by omega, by omega, rfl, no_more hno.out hm.out, HB⟩
            case measure => decide
          · have hp : Hid (hitP s 1) := hh.out.2 ⟨hL.out, rfl⟩
            go_wp2_with fail
            refine wp_loop_rounds 2 ?_
            rw [rounds_succ]
            go_wp2_with ((first | (go_at_call 59; refine (hE _).mono ?_; rintro e w1 ⟨rfl, hb1⟩; have HB := bdt HB hb1; clear hb1) | (go_at_call 60; refine (hB _).mono ?_; rintro e w1 ⟨rfl, hw1⟩; subst w1)))
            go_ret2
            refine ⟨ret_two ?_ ?_, HB⟩
            · rw [hr.out hp.out]; have h0 := hvn.out hp.out; have h1 := hvv.out; simp only; omega
            · rw [hr.out hp.out]; rfl
        · have e1 : (((sOf L).size : Int) == 1) = false := by rw [hz.out]; simp; omega
          have hm : Hid (¬ hitP s 1) := fun h => hL (hh.out.1 h).1
          clear hL
          go_wp2_with fail
          refine wp_loop_rounds 2 ?_
          rw [rounds_succ]
          go_wp2_with ((first | (go_at_call 59; refine (hE _).mono ?_; rintro e w1 ⟨rfl, hb1⟩; have HB := bdt HB hb1; clear hb1) | (go_at_call 60; refine (hB _).mono ?_; rintro e w1 ⟨rfl, hw1⟩; subst w1)))
          go_round
          case rel => exact ⟨2, by omega, by omega, rfl, no_more hno.out hm.out, HB⟩
          case measure => decide
      · have d1 : decide ((1 : Int) ≤ (s.size : Int)) = false := by simp; omega
        have hg : Hid (seqN s = (0, 0)) := none_of hno.out (fun m h1 h2 _ hp => by have := hp.1; omega)
        go_wp2_with fail
        go_ret2
        exact ⟨ret_two (by rw [hg.out]; rfl) (by rw [hg.out]; rfl), HB⟩
    · have hle : 2 ≤ s.size ∨ s.size < 2 := by omega
      rcases hle with hle | hle
      · have d1 : decide ((2 : Int) ≤ (s.size : Int)) = true := by simp; omega
        have i0 : ∀ w : World, (Instr.index 9 (.string s) (.int .i64 0)).run Tryz.prog w = .ok (.int .u8 (ch s 0 : Int)) w := fun w => nidx (w := w) s 0 (by omega) .i64
        have b0 := ch_lt s 0
        have i1 : ∀ w : World, (Instr.index 9 (.string s) (.int .i64 1)).run Tryz.prog w = .ok (.int .u8 (ch s 1 : Int)) w := fun w => nidx (w := w) s 1 (by omega) .i64
        have b1 := ch_lt s 1
        obtain ⟨v, hv⟩ : ∃ v, Hid (v = vI s 2) := ⟨_, rfl⟩
        have hE : ∀ w, Calls Tryz.prog 59 #[.int .i64 (((ch s 0 : Int) - 192) * 64 + (ch s 1 : Int) - 128)] w fun e w' => e = .returned (.string (sOf (encI v))) ∧ Below w.heap.size w w' := fun w => by
          have := rEncode (vI s 2) w
          rw [← hv.out] at this
          rw [hv.out] at this ⊢
          exact this
        have hB : ∀ w, Calls Tryz.prog 60 #[.string s, .string (sOf (encI v))] w fun e w' => e = .returned (.bool (decide ((sOf (encI v)).size ≤ s.size) && decide (s.extract 0 (sOf (encI v)).size = sOf (encI v)))) ∧ w' = w := fun w => rbegins s _ w
        have hh : Hid (hitP s 2 ↔ (encI v).length = 2 ∧ (decide ((sOf (encI v)).size ≤ s.size) && decide (s.extract 0 (sOf (encI v)).size = sOf (encI v))) = true) := by
          show _ ↔ _
          rw [hv.out]
          exact hit_iff s 2 hle
        have hr : Hid (hitP s 2 → seqN s = (v.toNat, 2)) := by
          show _ → _
          rw [hv.out]
          exact seq_hit2 s
        have hz : Hid ((sOf (encI v)).size = (encI v).length) := sOf_size _
        have hvn : Hid (hitP s 2 → 0 ≤ v) := by
          show _ → _
          intro hp
          have h1 : v = ((ch s 0 : Int) - 192) * 64 + (ch s 1 : Int) - 128 := hv.out
          rw [hit2] at hp
          omega
        have hvv : Hid (((ch s 0 : Int) - 192) * 64 + (ch s 1 : Int) - 128 = v) := hv.out.symm
        clear hv
        generalize encI v = L at hE hB hh hz
        by_cases hL : L.length = 2
        · have e1 : (((sOf L).size : Int) == 2) = true := by rw [hz.out, hL]; rfl
          have hL : Hid (L.length = 2) := hL
          generalize (decide ((sOf L).size ≤ s.size) && decide (s.extract 0 (sOf L).size = sOf L)) = bb at hB hh
          cases bb
          · have hm : Hid (¬ hitP s 2) := fun h => by have := (hh.out.1 h).2; cases this
            go_wp2_with fail
            refine wp_loop_rounds 3 ?_
            rw [rounds_succ]
            go_wp2_with ((first | (go_at_call 59; refine (hE _).mono ?_; rintro e w1 ⟨rfl, hb1⟩; have HB := bdt HB hb1; clear hb1) | (go_at_call 60; refine (hB _).mono ?_; rintro e w1 ⟨rfl, hw1⟩; subst w1)))
            rw [rounds_succ]
            go_wp2_with ((first | (go_at_call 59; refine (hE _).mono ?_; rintro e w1 ⟨rfl, hb1⟩; have HB := bdt HB hb1; clear hb1) | (go_at_call 60; refine (hB _).mono ?_; rintro e w1 ⟨rfl, hw1⟩; subst w1)))
            go_round
            case rel => exact ⟨3, by omega, by omega, rfl, no_more hno.out hm.out, HB⟩
            case measure => decide
          · have hp : Hid (hitP s 2) := hh.out.2 ⟨hL.out, rfl⟩
            go_wp2_with fail
            refine wp_loop_rounds 3 ?_
            rw [rounds_succ]
            go_wp2_with ((first | (go_at_call 59; refine (hE _).mono ?_; rintro e w1 ⟨rfl, hb1⟩; have HB := bdt HB hb1; clear hb1) | (go_at_call 60; refine (hB _).mono ?_; rintro e w1 ⟨rfl, hw1⟩; subst w1)))
            rw [rounds_succ]
            go_wp2_with ((first | (go_at_call 59; refine (hE _).mono ?_; rintro e w1 ⟨rfl, hb1⟩; have HB := bdt HB hb1; clear hb1) | (go_at_call 60; refine (hB _).mono ?_; rintro e w1 ⟨rfl, hw1⟩; subst w1)))
            go_ret2
            refine ⟨ret_two ?_ ?_, HB⟩
            · rw [hr.out hp.out]; have h0 := hvn.out hp.out; have h1 := hvv.out; simp only; omega
            · rw [hr.out hp.out]; rfl
        · have e1 : (((sOf L).size : Int) == 2) = false := by rw [hz.out]; simp; omega
          have hm : Hid (¬ hitP s 2) := fun h => hL (hh.out.1 h).1
          clear hL
          go_wp2_with fail
          refine wp_loop_rounds 3 ?_
          rw [rounds_succ]
          go_wp2_with ((first | (go_at_call 59; refine (hE _).mono ?_; rintro e w1 ⟨rfl, hb1⟩; have HB := bdt HB hb1; clear hb1) | (go_at_call 60; refine (hB _).mono ?_; rintro e w1 ⟨rfl, hw1⟩; subst w1)))
          rw [rounds_succ]
          go_wp2_with ((first | (go_at_call 59; refine (hE _).mono ?_; rintro e w1 ⟨rfl, hb1⟩; have HB := bdt HB hb1; clear hb1) | (go_at_call 60; refine (hB _).mono ?_; rintro e w1 ⟨rfl, hw1⟩; subst w1)))
          go_round
          case rel => exact ⟨3, by omega, by omega, rfl, no_more hno.out hm.out, HB⟩
          case measure => decide
      · have d1 : decide ((2 : Int) ≤ (s.size : Int)) = false := by simp; omega
        have hg : Hid (seqN s = (0, 0)) := none_of hno.out (fun m h1 h2 _ hp => by have := hp.1; omega)
        go_wp2_with fail
        go_ret2
        exact ⟨ret_two (by rw [hg.out]; rfl) (by rw [hg.out]; rfl), HB⟩
    · have hle : 3 ≤ s.size ∨ s.size < 3 := by omega
      rcases hle with hle | hle
      · have d1 : decide ((3 : Int) ≤ (s.size : Int)) = true := by simp; omega
        have i0 : ∀ w : World, (Instr.index 9 (.string s) (.int .i64 0)).run Tryz.prog w = .ok (.int .u8 (ch s 0 : Int)) w := fun w => nidx (w := w) s 0 (by omega) .i64
        have b0 := ch_lt s 0
        have i1 : ∀ w : World, (Instr.index 9 (.string s) (.int .i64 1)).run Tryz.prog w = .ok (.int .u8 (ch s 1 : Int)) w := fun w => nidx (w := w) s 1 (by omega) .i64
        have b1 := ch_lt s 1
        have i2 : ∀ w : World, (Instr.index 9 (.string s) (.int .i64 2)).run Tryz.prog w = .ok (.int .u8 (ch s 2 : Int)) w := fun w => nidx (w := w) s 2 (by omega) .i64
        have b2 := ch_lt s 2
        obtain ⟨v, hv⟩ : ∃ v, Hid (v = vI s 3) := ⟨_, rfl⟩
        have hE : ∀ w, Calls Tryz.prog 59 #[.int .i64 ((((ch s 0 : Int) - 224) * 64 + (ch s 1 : Int) - 128) * 64 + (ch s 2 : Int) - 128)] w fun e w' => e = .returned (.string (sOf (encI v))) ∧ Below w.heap.size w w' := fun w => by
          have := rEncode (vI s 3) w
          rw [← hv.out] at this
          rw [hv.out] at this ⊢
          exact this
        have hB : ∀ w, Calls Tryz.prog 60 #[.string s, .string (sOf (encI v))] w fun e w' => e = .returned (.bool (decide ((sOf (encI v)).size ≤ s.size) && decide (s.extract 0 (sOf (encI v)).size = sOf (encI v)))) ∧ w' = w := fun w => rbegins s _ w
        have hh : Hid (hitP s 3 ↔ (encI v).length = 3 ∧ (decide ((sOf (encI v)).size ≤ s.size) && decide (s.extract 0 (sOf (encI v)).size = sOf (encI v))) = true) := by
          show _ ↔ _
          rw [hv.out]
          exact hit_iff s 3 hle
        have hr : Hid (hitP s 3 → seqN s = (v.toNat, 3)) := by
          show _ → _
          rw [hv.out]
          exact seq_hit3 s
        have hz : Hid ((sOf (encI v)).size = (encI v).length) := sOf_size _
        have hvn : Hid (hitP s 3 → 0 ≤ v) := by
          show _ → _
          intro hp
          have h1 : v = (((ch s 0 : Int) - 224) * 64 + (ch s 1 : Int) - 128) * 64 + (ch s 2 : Int) - 128 := hv.out
          rw [hit3] at hp
          omega
        have hvv : Hid ((((ch s 0 : Int) - 224) * 64 + (ch s 1 : Int) - 128) * 64 + (ch s 2 : Int) - 128 = v) := hv.out.symm
        clear hv
        generalize encI v = L at hE hB hh hz
        by_cases hL : L.length = 3
        · have e1 : (((sOf L).size : Int) == 3) = true := by rw [hz.out, hL]; rfl
          have hL : Hid (L.length = 3) := hL
          generalize (decide ((sOf L).size ≤ s.size) && decide (s.extract 0 (sOf L).size = sOf L)) = bb at hB hh
          cases bb
          · have hm : Hid (¬ hitP s 3) := fun h => by have := (hh.out.1 h).2; cases this
            go_wp2_with fail
            refine wp_loop_rounds 4 ?_
            rw [rounds_succ]
            go_wp2_with ((first | (go_at_call 59; refine (hE _).mono ?_; rintro e w1 ⟨rfl, hb1⟩; have HB := bdt HB hb1; clear hb1) | (go_at_call 60; refine (hB _).mono ?_; rintro e w1 ⟨rfl, hw1⟩; subst w1)))
            rw [rounds_succ]
            go_wp2_with ((first | (go_at_call 59; refine (hE _).mono ?_; rintro e w1 ⟨rfl, hb1⟩; have HB := bdt HB hb1; clear hb1) | (go_at_call 60; refine (hB _).mono ?_; rintro e w1 ⟨rfl, hw1⟩; subst w1)))
            rw [rounds_succ]
            go_wp2_with ((first | (go_at_call 59; refine (hE _).mono ?_; rintro e w1 ⟨rfl, hb1⟩; have HB := bdt HB hb1; clear hb1) | (go_at_call 60; refine (hB _).mono ?_; rintro e w1 ⟨rfl, hw1⟩; subst w1)))
            go_round
            case rel => exact ⟨4, by omega, by omega, rfl, no_more hno.out hm.out, HB⟩
            case measure => decide
          · have hp : Hid (hitP s 3) := hh.out.2 ⟨hL.out, rfl⟩
            go_wp2_with fail
            refine wp_loop_rounds 4 ?_
            rw [rounds_succ]
            go_wp2_with ((first | (go_at_call 59; refine (hE _).mono ?_; rintro e w1 ⟨rfl, hb1⟩; have HB := bdt HB hb1; clear hb1) | (go_at_call 60; refine (hB _).mono ?_; rintro e w1 ⟨rfl, hw1⟩; subst w1)))
            rw [rounds_succ]
            go_wp2_with ((first | (go_at_call 59; refine (hE _).mono ?_; rintro e w1 ⟨rfl, hb1⟩; have HB := bdt HB hb1; clear hb1) | (go_at_call 60; refine (hB _).mono ?_; rintro e w1 ⟨rfl, hw1⟩; subst w1)))
            rw [rounds_succ]
            go_wp2_with ((first | (go_at_call 59; refine (hE _).mono ?_; rintro e w1 ⟨rfl, hb1⟩; have HB := bdt HB hb1; clear hb1) | (go_at_call 60; refine (hB _).mono ?_; rintro e w1 ⟨rfl, hw1⟩; subst w1)))
            go_ret2
            refine ⟨ret_two ?_ ?_, HB⟩
            · rw [hr.out hp.out]; have h0 := hvn.out hp.out; have h1 := hvv.out; simp only; omega
            · rw [hr.out hp.out]; rfl
        · have e1 : (((sOf L).size : Int) == 3) = false := by rw [hz.out]; simp; omega
          have hm : Hid (¬ hitP s 3) := fun h => hL (hh.out.1 h).1
          clear hL
          go_wp2_with fail
          refine wp_loop_rounds 4 ?_
          rw [rounds_succ]
          go_wp2_with ((first | (go_at_call 59; refine (hE _).mono ?_; rintro e w1 ⟨rfl, hb1⟩; have HB := bdt HB hb1; clear hb1) | (go_at_call 60; refine (hB _).mono ?_; rintro e w1 ⟨rfl, hw1⟩; subst w1)))
          rw [rounds_succ]
          go_wp2_with ((first | (go_at_call 59; refine (hE _).mono ?_; rintro e w1 ⟨rfl, hb1⟩; have HB := bdt HB hb1; clear hb1) | (go_at_call 60; refine (hB _).mono ?_; rintro e w1 ⟨rfl, hw1⟩; subst w1)))
          rw [rounds_succ]
          go_wp2_with ((first | (go_at_call 59; refine (hE _).mono ?_; rintro e w1 ⟨rfl, hb1⟩; have HB := bdt HB hb1; clear hb1) | (go_at_call 60; refine (hB _).mono ?_; rintro e w1 ⟨rfl, hw1⟩; subst w1)))
          go_round
          case rel => exact ⟨4, by omega, by omega, rfl, no_more hno.out hm.out, HB⟩
          case measure => decide
      · have d1 : decide ((3 : Int) ≤ (s.size : Int)) = false := by simp; omega
        have hg : Hid (seqN s = (0, 0)) := none_of hno.out (fun m h1 h2 _ hp => by have := hp.1; omega)
        go_wp2_with fail
        go_ret2
        exact ⟨ret_two (by rw [hg.out]; rfl) (by rw [hg.out]; rfl), HB⟩
    · have hle : 4 ≤ s.size ∨ s.size < 4 := by omega
      rcases hle with hle | hle
      · have d1 : decide ((4 : Int) ≤ (s.size : Int)) = true := by simp; omega
        have i0 : ∀ w : World, (Instr.index 9 (.string s) (.int .i64 0)).run Tryz.prog w = .ok (.int .u8 (ch s 0 : Int)) w := fun w => nidx (w := w) s 0 (by omega) .i64
        have b0 := ch_lt s 0
        have i1 : ∀ w : World, (Instr.index 9 (.string s) (.int .i64 1)).run Tryz.prog w = .ok (.int .u8 (ch s 1 : Int)) w := fun w => nidx (w := w) s 1 (by omega) .i64
        have b1 := ch_lt s 1
        have i2 : ∀ w : World, (Instr.index 9 (.string s) (.int .i64 2)).run Tryz.prog w = .ok (.int .u8 (ch s 2 : Int)) w := fun w => nidx (w := w) s 2 (by omega) .i64
        have b2 := ch_lt s 2
        have i3 : ∀ w : World, (Instr.index 9 (.string s) (.int .i64 3)).run Tryz.prog w = .ok (.int .u8 (ch s 3 : Int)) w := fun w => nidx (w := w) s 3 (by omega) .i64
        have b3 := ch_lt s 3
        obtain ⟨v, hv⟩ : ∃ v, Hid (v = vI s 4) := ⟨_, rfl⟩
        have hE : ∀ w, Calls Tryz.prog 59 #[.int .i64 (((((ch s 0 : Int) - 240) * 64 + (ch s 1 : Int) - 128) * 64 + (ch s 2 : Int) - 128) * 64 + (ch s 3 : Int) - 128)] w fun e w' => e = .returned (.string (sOf (encI v))) ∧ Below w.heap.size w w' := fun w => by
          have := rEncode (vI s 4) w
          rw [← hv.out] at this
          rw [hv.out] at this ⊢
          exact this
        have hB : ∀ w, Calls Tryz.prog 60 #[.string s, .string (sOf (encI v))] w fun e w' => e = .returned (.bool (decide ((sOf (encI v)).size ≤ s.size) && decide (s.extract 0 (sOf (encI v)).size = sOf (encI v)))) ∧ w' = w := fun w => rbegins s _ w
        have hh : Hid (hitP s 4 ↔ (encI v).length = 4 ∧ (decide ((sOf (encI v)).size ≤ s.size) && decide (s.extract 0 (sOf (encI v)).size = sOf (encI v))) = true) := by
          show _ ↔ _
          rw [hv.out]
          exact hit_iff s 4 hle
        have hr : Hid (hitP s 4 → seqN s = (v.toNat, 4)) := by
          show _ → _
          rw [hv.out]
          exact seq_hit4 s
        have hz : Hid ((sOf (encI v)).size = (encI v).length) := sOf_size _
        have hvn : Hid (hitP s 4 → 0 ≤ v) := by
          show _ → _
          intro hp
          have h1 : v = ((((ch s 0 : Int) - 240) * 64 + (ch s 1 : Int) - 128) * 64 + (ch s 2 : Int) - 128) * 64 + (ch s 3 : Int) - 128 := hv.out
          rw [hit4] at hp
          omega
        have hvv : Hid (((((ch s 0 : Int) - 240) * 64 + (ch s 1 : Int) - 128) * 64 + (ch s 2 : Int) - 128) * 64 + (ch s 3 : Int) - 128 = v) := hv.out.symm
        clear hv
        generalize encI v = L at hE hB hh hz
        by_cases hL : L.length = 4
        · have e1 : (((sOf L).size : Int) == 4) = true := by rw [hz.out, hL]; rfl
          have hL : Hid (L.length = 4) := hL
          generalize (decide ((sOf L).size ≤ s.size) && decide (s.extract 0 (sOf L).size = sOf L)) = bb at hB hh
          cases bb
          · have hm : Hid (¬ hitP s 4) := fun h => by have := (hh.out.1 h).2; cases this
            go_wp2_with fail
            refine wp_loop_rounds 5 ?_
            rw [rounds_succ]
            go_wp2_with ((first | (go_at_call 59; refine (hE _).mono ?_; rintro e w1 ⟨rfl, hb1⟩; have HB := bdt HB hb1; clear hb1) | (go_at_call 60; refine (hB _).mono ?_; rintro e w1 ⟨rfl, hw1⟩; subst w1)))
            rw [rounds_succ]
            go_wp2_with ((first | (go_at_call 59; refine (hE _).mono ?_; rintro e w1 ⟨rfl, hb1⟩; have HB := bdt HB hb1; clear hb1) | (go_at_call 60; refine (hB _).mono ?_; rintro e w1 ⟨rfl, hw1⟩; subst w1)))
            rw [rounds_succ]
            go_wp2_with ((first | (go_at_call 59; refine (hE _).mono ?_; rintro e w1 ⟨rfl, hb1⟩; have HB := bdt HB hb1; clear hb1) | (go_at_call 60; refine (hB _).mono ?_; rintro e w1 ⟨rfl, hw1⟩; subst w1)))
            rw [rounds_succ]
            go_wp2_with ((first | (go_at_call 59; refine (hE _).mono ?_; rintro e w1 ⟨rfl, hb1⟩; have HB := bdt HB hb1; clear hb1) | (go_at_call 60; refine (hB _).mono ?_; rintro e w1 ⟨rfl, hw1⟩; subst w1)))
            go_round
            case rel => exact ⟨5, by omega, by omega, rfl, no_more hno.out hm.out, HB⟩
            case measure => decide
          · have hp : Hid (hitP s 4) := hh.out.2 ⟨hL.out, rfl⟩
            go_wp2_with fail
            refine wp_loop_rounds 5 ?_
            rw [rounds_succ]
            go_wp2_with ((first | (go_at_call 59; refine (hE _).mono ?_; rintro e w1 ⟨rfl, hb1⟩; have HB := bdt HB hb1; clear hb1) | (go_at_call 60; refine (hB _).mono ?_; rintro e w1 ⟨rfl, hw1⟩; subst w1)))
            rw [rounds_succ]
            go_wp2_with ((first | (go_at_call 59; refine (hE _).mono ?_; rintro e w1 ⟨rfl, hb1⟩; have HB := bdt HB hb1; clear hb1) | (go_at_call 60; refine (hB _).mono ?_; rintro e w1 ⟨rfl, hw1⟩; subst w1)))
            rw [rounds_succ]
            go_wp2_with ((first | (go_at_call 59; refine (hE _).mono ?_; rintro e w1 ⟨rfl, hb1⟩; have HB := bdt HB hb1; clear hb1) | (go_at_call 60; refine (hB _).mono ?_; rintro e w1 ⟨rfl, hw1⟩; subst w1)))
            rw [rounds_succ]
            go_wp2_with ((first | (go_at_call 59; refine (hE _).mono ?_; rintro e w1 ⟨rfl, hb1⟩; have HB := bdt HB hb1; clear hb1) | (go_at_call 60; refine (hB _).mono ?_; rintro e w1 ⟨rfl, hw1⟩; subst w1)))
            go_ret2
            refine ⟨ret_two ?_ ?_, HB⟩
            · rw [hr.out hp.out]; have h0 := hvn.out hp.out; have h1 := hvv.out; simp only; omega
            · rw [hr.out hp.out]; rfl
        · have e1 : (((sOf L).size : Int) == 4) = false := by rw [hz.out]; simp; omega
          have hm : Hid (¬ hitP s 4) := fun h => hL (hh.out.1 h).1
          clear hL
          go_wp2_with fail
          refine wp_loop_rounds 5 ?_
          rw [rounds_succ]
          go_wp2_with ((first | (go_at_call 59; refine (hE _).mono ?_; rintro e w1 ⟨rfl, hb1⟩; have HB := bdt HB hb1; clear hb1) | (go_at_call 60; refine (hB _).mono ?_; rintro e w1 ⟨rfl, hw1⟩; subst w1)))
          rw [rounds_succ]
          go_wp2_with ((first | (go_at_call 59; refine (hE _).mono ?_; rintro e w1 ⟨rfl, hb1⟩; have HB := bdt HB hb1; clear hb1) | (go_at_call 60; refine (hB _).mono ?_; rintro e w1 ⟨rfl, hw1⟩; subst w1)))
          rw [rounds_succ]
          go_wp2_with ((first | (go_at_call 59; refine (hE _).mono ?_; rintro e w1 ⟨rfl, hb1⟩; have HB := bdt HB hb1; clear hb1) | (go_at_call 60; refine (hB _).mono ?_; rintro e w1 ⟨rfl, hw1⟩; subst w1)))
          rw [rounds_succ]
          go_wp2_with ((first | (go_at_call 59; refine (hE _).mono ?_; rintro e w1 ⟨rfl, hb1⟩; have HB := bdt HB hb1; clear hb1) | (go_at_call 60; refine (hB _).mono ?_; rintro e w1 ⟨rfl, hw1⟩; subst w1)))
          go_round
          case rel => exact ⟨5, by omega, by omega, rfl, no_more hno.out hm.out, HB⟩
          case measure => decide
      · have d1 : decide ((4 : Int) ≤ (s.size : Int)) = false := by simp; omega
        have hg : Hid (seqN s = (0, 0)) := none_of hno.out (fun m h1 h2 _ hp => by have := hp.1; omega)
        go_wp2_with fail
        go_ret2
        exact ⟨ret_two (by rw [hg.out]; rfl) (by rw [hg.out]; rfl), HB⟩
    · have hg : Hid (seqN s = (0, 0)) := none_of hno.out (fun m h1 h2 h3 => by omega)
      go_wp2_with fail
      go_ret2
      exact ⟨ret_two (by rw [hg.out]; rfl) (by rw [hg.out]; rfl), HB⟩
end Go.Proofs.YtmnjpkeeoeoegaaGreatDoor

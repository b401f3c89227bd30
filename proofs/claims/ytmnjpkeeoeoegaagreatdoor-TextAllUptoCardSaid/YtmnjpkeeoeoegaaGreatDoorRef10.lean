/- The document's answer: Unhex. -/
import Derived.Test.YtmnjpkeeoeoegaaGreatDoorRef9
import Derived.Test.YtmnjpkeeoeoegaaGreatDoorQuo7
namespace Go.Proofs.YtmnjpkeeoeoegaaGreatDoor
open Go.ChangeShapes Go.WideShapes Go.ChangeAt Go.RowKit

theorem pair_both (s : ByteArray) (a d e : Nat) (h : a + 1 < s.size) (h1 : worth (ch s a) = some d) (h2 : worth (ch s (a + 1)) = some e) : pairN s a = (d * 16 + e, a + 2) := by
  unfold pairN
  rw [if_neg (by omega), h1]
  simp only
  rw [if_neg (by omega), h2]
theorem unh_bad (s : ByteArray) (i : Nat) (hi : i < s.size) (hn : worth (ch s i) = none) (hall : ∀ j, j < i → worth (ch s j) ≠ none) : ∀ n a acc, a + n = i → unhF s (s.size + 1) a acc = ([], 1, i)
  | 0, a, acc, h => by
    obtain rfl : a = i := by omega
    have hp : pairN s a = (0, a) := by unfold pairN; rw [if_neg (by omega), hn]
    rw [unh_step s a acc hi, hp, if_pos (by simp only; omega)]
  | 1, a, acc, h => by
    obtain ⟨d, hd⟩ := Option.ne_none_iff_exists'.1 (hall a (by omega))
    obtain rfl : a + 1 = i := h
    have hp : pairN s a = (d, a + 1) := by unfold pairN; rw [if_neg (by omega), hd]; simp only; rw [if_neg (by omega), hn]
    rw [unh_step s a acc (by omega), hp, if_pos (by simp only; omega)]
  | n + 2, a, acc, h => by
    obtain ⟨d, hd⟩ := Option.ne_none_iff_exists'.1 (hall a (by omega))
    obtain ⟨e, he⟩ := Option.ne_none_iff_exists'.1 (hall (a + 1) (by omega))
    rw [unh_step s a acc (by omega), pair_both s a d e (by omega) hd he, if_neg (by simp only; omega)]
    exact unh_bad s i hi hn hall n (a + 2) _ (by omega)
theorem unh_odd (s : ByteArray) (hall : ∀ j, j < s.size → worth (ch s j) ≠ none) : ∀ n a acc, a + (2 * n + 1) = s.size → unhF s (s.size + 1) a acc = ([], 1, s.size)
  | 0, a, acc, h => by
    obtain ⟨d, hd⟩ := Option.ne_none_iff_exists'.1 (hall a (by omega))
    have hp : pairN s a = (d, a + 1) := by unfold pairN; rw [if_neg (by omega), hd]; simp only; rw [if_pos (by omega)]
    rw [unh_step s a acc (by omega), hp, if_pos (by simp only; omega)]
    simp only
    rw [show a + 1 = s.size by omega]
  | n + 1, a, acc, h => by
    obtain ⟨d, hd⟩ := Option.ne_none_iff_exists'.1 (hall a (by omega))
    obtain ⟨e, he⟩ := Option.ne_none_iff_exists'.1 (hall (a + 1) (by omega))
    rw [unh_step s a acc (by omega), pair_both s a d e (by omega) hd he, if_neg (by simp only; omega)]
    exact unh_odd s hall n (a + 2) _ (by omega)
theorem wrI_some {c d : Nat} (h : worth c = some d) : wrI c = (d : Int) := by unfold wrI; rw [h]
theorem wrI_none {c : Nat} (h : worth c = none) : wrI c = -1 := by unfold wrI; rw [h]
theorem ent_worth : ∀ ag w, (callFunc 56 ag).run Tryz.prog w = .ok (.enter 56 ag) w := enters_of Tryz.func56 (by kernel_rfl) rfl
theorem rret3 {a b : ByteArray} {c d e f : Int} (h1 : a = b) (h2 : c = d) (h3 : e = f) : Ending.returned (.tuple #[.string a, .int .i64 c, .int .i64 e]) = .returned (.tuple #[.string b, .int .i64 d, .int .i64 f]) := by rw [h1, h2, h3]
set_option maxRecDepth 100000 in
set_option maxHeartbeats 2000000 in
theorem rUnhex (s : ByteArray) (w : World) (hs : s.size ≤ 70368744177664) : Calls Tryz.prog 29 #[.string s] w fun e w' => e = .returned (.tuple #[.string (sOf (unhN s).1), .int .i64 ((unhN s).2.1 : Nat), .int .i64 ((unhN s).2.2 : Nat)]) ∧ Below w.heap.size w w' := by
  go_enter Tryz.func29, Tryz.ntmps29
  go_wp2_with fail
  go_loop [5] (fun v => ∃ i : Nat, i ≤ s.size ∧ v = .int .i64 (i : Int) ∧ Hid (∀ j, j < i → worth (ch s j) ≠ none)) (fun v => s.size - (intOf v).toNat)
  case atStart => exact ⟨0, Nat.zero_le _, rfl, fun j hj => absurd hj (Nat.not_lt_zero j)⟩
  case round =>
    obtain ⟨i, hi, rfl, hall⟩ := hrel
    by_cases hlt : i < s.size
    · obtain ⟨c, hc⟩ : ∃ c, Hid (c = ch s i) := ⟨_, rfl⟩
      have ix : ∀ w : World, (Instr.index 9 (.string s) (.int .i64 (i : Int))).run Tryz.prog w = .ok (.int .u8 (c : Int)) w := fun w => by rw [hc.out]; exact nidx (w := w) s i hlt .i64
      have hc2 : c < 256 := by rw [hc.out]; exact ch_lt s i
      cases hw : worth c with
      | none =>
        have hW := fun w => rworth c hc2 w
        rw [wrI_none hw] at hW
        have hg : Hid (unhN s = ([], 1, i)) := unh_bad s i hlt (by rw [← hc.out]; exact hw) hall.out i 0 [] (by omega)
        clear hw
        go_wp2_with (go_at_call 56; refine (hW _).mono ?_; rintro e w1 ⟨rfl, hw1⟩; subst w1)
        go_ret3
        exact ⟨rret3 (by rw [hg.out]; rfl) (by rw [hg.out]; rfl) (by rw [hg.out]), Below.refl _ _⟩
      | some d =>
        have hW := fun w => rworth c hc2 w
        rw [wrI_some hw] at hW
        have hw' : Hid (worth c = some d) := hw
        have d0 : decide ((d : Int) < 0) = false := by simp
        clear hw
        go_wp2_with (go_at_call 56; refine (hW _).mono ?_; rintro e w1 ⟨rfl, hw1⟩; subst w1)
        go_round
        case rel => exact ⟨i + 1, by omega, by go_num, fun j hj => by
          by_cases h : j = i
          · rw [h, ← hc.out, hw'.out]; simp
          · exact hall.out j (by omega)⟩
        case measure => simp [intOf]; omega
    · obtain rfl : i = s.size := by omega
      by_cases hodd : s.size % 2 = 1
      · have e2 : ((s.size : Int) % 2 == 1) = true := by simp; omega
        have hg : Hid (unhN s = ([], 1, s.size)) := unh_odd s hall.out (s.size / 2) 0 [] (by omega)
        have hodd : Hid (s.size % 2 = 1) := hodd
        go_wp2_with fail
        go_ret3
        exact ⟨rret3 (by rw [hg.out]; rfl) (by rw [hg.out]; rfl) (by rw [hg.out]), Below.refl _ _⟩
      · have e2 : ((s.size : Int) % 2 == 1) = false := by simp; omega
        have hodd : Hid (¬ s.size % 2 = 1) := hodd
        go_wp2_with fail
        go_loopw [6, 7] (fun v i wr => ∃ (k : Nat) (L : List Nat), k ≤ s.size ∧ i = .int .i64 (k : Int) ∧ Hid (k % 2 = 0 ∧ unhF s (s.size + 1) k L = unhN s) ∧ L.length ≤ k ∧ Buf wr w.heap.size v L ∧ Below w.heap.size w wr) (fun _ i _ => s.size - (intOf i).toNat)
        case atStart => exact ⟨0, [], Nat.zero_le _, rfl, ⟨rfl, rfl⟩, Nat.le_refl _, Buf.nil _ _, Below.refl _ _⟩
        case round =>
          obtain ⟨k, L, hk, rfl, hu, hL, hB, HB⟩ := hrel
          by_cases hlt : k < s.size
          · have hk1 : k + 1 < s.size := by have := hu.out.1; have := hodd.out; omega
            obtain ⟨d, hd⟩ := Option.ne_none_iff_exists'.1 (hall.out k (by omega))
            obtain ⟨e, he⟩ := Option.ne_none_iff_exists'.1 (hall.out (k + 1) (by omega))
            have hd16 := worth_lt hd
            have he16 := worth_lt he
            have hst : Hid (unhF s (s.size + 1) (k + 2) (L ++ [d * 16 + e]) = unhN s) := by
              show _ = _
              rw [← hu.out.2, unh_step s k L hlt, pair_both s k d e hk1 hd he, if_neg (by simp only; omega)]
            obtain ⟨c, hc⟩ : ∃ c, Hid (c = ch s k) := ⟨_, rfl⟩
            obtain ⟨c2, hc2⟩ : ∃ c2, Hid (c2 = ch s (k + 1)) := ⟨_, rfl⟩
            have i1 : ∀ w : World, (Instr.index 9 (.string s) (.int .i64 (k : Int))).run Tryz.prog w = .ok (.int .u8 (c : Int)) w := fun w => by rw [hc.out]; exact nidx (w := w) s k hlt .i64
            have i2 : ∀ w : World, (Instr.index 9 (.string s) (.int .i64 (IntKind.i64.wrap ((k : Int) + 1)))).run Tryz.prog w = .ok (.int .u8 (c2 : Int)) w := fun w => by
              have := nidx (w := w) s (k + 1) hk1 .i64
              rw [hc2.out, show IntKind.i64.wrap ((k : Int) + 1) = ((k + 1 : Nat) : Int) by rw [IntKind.wrap_i64]; omega]
              exact this
            have s1 : ∀ w, Calls Tryz.prog 56 #[.int .u8 (c : Int), .bool true] w fun r w' => ∃ v, r = .returned v ∧ (v = .int .i64 (d : Int) ∧ w' = w) := fun w => by
              have := rworth c (by rw [hc.out]; exact ch_lt s k) w
              rw [wrI_some (by rw [hc.out]; exact hd)] at this
              exact this.mono fun e w' ⟨h1, h2⟩ => ⟨_, h1, rfl, h2⟩
            have s2 : ∀ w, Calls Tryz.prog 56 #[.int .u8 (c2 : Int), .bool true] w fun r w' => ∃ v, r = .returned v ∧ (v = .int .i64 (e : Int) ∧ w' = w) := fun w => by
              have := rworth c2 (by rw [hc2.out]; exact ch_lt s (k + 1)) w
              rw [wrI_some (by rw [hc2.out]; exact he)] at this
              exact this.mono fun e w' ⟨h1, h2⟩ => ⟨_, h1, rfl, h2⟩
            obtain ⟨v', w', hrun, hbuf, hbel⟩ := Buf.append (w := (wr.alloc (.cells #[.int .u8 ((d * 16 + e : Nat) : Int)] 5)).drew) (B := w.heap.size) (v := u6) (L := L) (tx := 45) (M := [d * 16 + e])
              (hB.below (bel1 wr _).drew) (src_lit _ wr.heap.size 1 1 _ rfl (heap_alloc_new wr _)) (by simp; omega) (by have := HB.size; simp; omega)
            have HB2 : Hid (Below w.heap.size w w') := HB.trans ((((Below.refl _ wr).alloc HB.size _).drew).trans hbel)
            have hv : Hid (((d * 16 + e : Nat) : Int) = IntKind.u8.wrap (IntKind.i64.wrap (IntKind.i64.wrap (16 * (d : Int)) + (e : Int)))) := by show _ = _; rw [IntKind.wrap_u8', IntKind.wrap_i64, IntKind.wrap_i64]; omega
            rw [hv.out] at hrun
            have hu' : Hid (k % 2 = 0) := hu.out.1
            clear hB hbel hd he hu
            go_wp2_with fail
            go_region_law (first
              | (refine step_append_ex ?_ (.tmp 32) (.tmp 45) _ _ ?_ _ _ ?_ ?_ (fun a b => a = v' ∧ b = w') ⟨v', w', hrun, rfl, rfl⟩ ?_; rfl; rfl; rfl; rfl; rintro _ _ ⟨rfl, rfl⟩)
              | (refine step_call2 ?_ _ (.tmp 35) (.const (.bool true)) #[5, 4] ?_ ent_worth _ _ ?_ ?_ _ (s1 _) ?_; rfl; rfl; rfl; rfl; rintro _ _ ⟨rfl, rfl⟩)
              | (refine step_call2 ?_ _ (.tmp 41) (.const (.bool true)) #[5, 4] ?_ ent_worth _ _ ?_ ?_ _ (s2 _) ?_; rfl; rfl; rfl; rfl; rintro _ _ ⟨rfl, rfl⟩))
            all_goals
              go_wp2_with fail
              go_roundw
              case rel => exact ⟨k + 2, L ++ [d * 16 + e], by omega, by go_num, ⟨by have := hu'.out; omega, hst.out⟩, by simp; omega, hbuf, HB2.out⟩
              case measure => simp [intOf]; omega
          · obtain rfl : k = s.size := by omega
            have hg : Hid (unhN s = (L, 0, 0)) := by show _ = _; rw [← hu.out.2, unh_end s s.size L (Nat.le_refl _)]
            have hcv := hB.conv
            go_wp2_with fail
            go_ret3
            exact ⟨rret3 (by rw [hg.out]) (by rw [hg.out]; rfl) (by rw [hg.out]; rfl), HB⟩
end Go.Proofs.YtmnjpkeeoeoegaaGreatDoor

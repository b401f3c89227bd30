/- The law LayFresh. -/
import Derived.Test.YtjdinlgbfpkodaaLFr4
namespace Go.Proofs.Ytjdinlgbfpkodaa
open Go.ChangeShapes Go.WideShapes Go.ChangeAt Go.RowKit Go.Shelf

set_option maxRecDepth 100000 in
set_option maxHeartbeats 16000000 in
theorem LayFresh_any (l : List Rm) (pp : Option Addr) (cp : Nat) (b : Int) (w : World) (hr : SlR w pp w.heap.size l) (hl : l.length ≤ 8796093021952) (hx : ∀ x ∈ l, x.ok) :
    Calls Try.prog 8 #[.slice pp l.length cp, .int .i64 b] w fun r w' => r = .returned (.bool true) ∧ Below w.heap.size w w' := by
  have K := fc_mk l pp cp b w hl hx
  have env : FE w w pp l [] := ⟨hr, ⟨fun _ _ h => (by cases h), fun _ _ _ _ h => (by cases h)⟩, Below.refl _ _⟩
  generalize plainZ l (placeZ l b).off (placeZ l b).n = ZP at K
  generalize gapsZ l (placeZ l b).off (placeZ l b).n = ZG at K
  generalize placeZ l b = Z at K
  obtain ⟨off, n, er, who⟩ := Z
  obtain ⟨GA, ge⟩ := ZG
  obtain ⟨PA, pn, pe⟩ := ZP
  dsimp only at K
  clear hr hx
  have F1 : Hid (1 = 1) := ⟨rfl⟩
  have F2 : Hid (1 = 1) := ⟨rfl⟩
  have F3 : Hid (1 = 1) := ⟨rfl⟩
  have F4 : Hid (1 = 1) := ⟨rfl⟩
  have F5 : Hid (1 = 1) := ⟨rfl⟩
  have F6 : Hid (1 = 1) := ⟨rfl⟩
  go_enter Try.func8, Try.ntmps8
  go_wp2_with (first
    | (go_at_call 11; refine (K.rooms env).mono ?_; clear env; rintro _ w1 ⟨px, cx, rfl, hsl, env⟩)
    | (clear F1; go_at_call 10; refine (K.place 0 _ _ env hsl).mono ?_; clear hsl env; rintro _ w1 ⟨pa, ca, rfl, env⟩)
    | (go_at_call 10; refine (K.place 1 _ _ env hsl).mono ?_; clear hsl env; rintro _ w1 ⟨pb, cb, rfl, env⟩)
    | (go_at_call 15; refine (K.refPlace 2 env).mono ?_; clear env; rintro _ w1 ⟨pw, cw, rfl, env⟩)
    | (go_at_call 12; refine (num_any _ _).mono ?_; rintro _ w' ⟨rfl, hw'⟩; replace hw' := hw'.symm; subst hw')
    | (go_at_call 16; refine Calls.mono (fe_sameInts off _ _ _ _ _ _ env (by repeat (first | exact List.Mem.head _ | apply List.Mem.tail)) (by repeat (first | exact List.Mem.head _ | apply List.Mem.tail)) K.ol) ?_; clear env; rintro _ w1 ⟨rfl, env⟩)
    | (go_at_call 18; refine (K.ints _ pw cw (c := 2) env (by repeat (first | exact List.Mem.head _ | apply List.Mem.tail)) hsl).mono ?_; clear hsl env; rintro _ w1 ⟨py, cy, rfl, hsz, hsl, env⟩)
    | (clear F2; go_at_call 20; refine (K.gaps 3 _ _ _ _ env hsl hsz).mono ?_; clear hsl hsz env; rintro _ w1 ⟨p3, c3, rfl, env⟩)
    | (clear F3; go_at_call 19; refine (K.plain 4 _ _ _ _ env hsl hsz).mono ?_; clear hsl hsz env; rintro _ w1 ⟨p4, c4, rfl, env⟩)
    | (go_at_call 20; refine (K.gaps 5 _ _ _ _ env hsl hsz).mono ?_; clear hsl hsz env; rintro _ w1 ⟨p5, c5, rfl, env⟩)
    | (go_at_call 19; refine (K.plain 6 _ _ _ _ env hsl hsz).mono ?_; clear hsl hsz env; rintro _ w1 ⟨p6, c6, rfl, env⟩)
    | (go_at_call 22; refine (K.refGaps 7 pw cw (c := 2) env (by repeat (first | exact List.Mem.head _ | apply List.Mem.tail))).mono ?_; clear env; rintro _ w1 ⟨p7, c7, rfl, env⟩)
    | (go_at_call 23; refine (K.refPlain 8 pw cw (c := 2) env (by repeat (first | exact List.Mem.head _ | apply List.Mem.tail))).mono ?_; clear env; rintro _ w1 ⟨p8, c8, rfl, env⟩)
    | (clear F4; go_at_call 24; refine Calls.mono (fe_sameRooms GA p3 p7 c3 c7 3 7 env (by repeat (first | exact List.Mem.head _ | apply List.Mem.tail)) (by repeat (first | exact List.Mem.head _ | apply List.Mem.tail)) K.gl) ?_; clear env; rintro _ w1 ⟨rfl, env⟩)
    | (clear F5; go_at_call 24; refine Calls.mono (fe_sameRooms GA p5 p7 c5 c7 5 7 env (by repeat (first | exact List.Mem.head _ | apply List.Mem.tail)) (by repeat (first | exact List.Mem.head _ | apply List.Mem.tail)) K.gl) ?_; clear env; rintro _ w1 ⟨rfl, env⟩)
    | (clear F6; go_at_call 24; refine Calls.mono (fe_sameRooms PA p4 p8 c4 c8 4 8 env (by repeat (first | exact List.Mem.head _ | apply List.Mem.tail)) (by repeat (first | exact List.Mem.head _ | apply List.Mem.tail)) (Nat.le_succ_of_le K.pl)) ?_; clear env; rintro _ w1 ⟨rfl, env⟩)
    | (go_at_call 24; refine Calls.mono (fe_sameRooms PA p6 p8 c6 c8 6 8 env (by repeat (first | exact List.Mem.head _ | apply List.Mem.tail)) (by repeat (first | exact List.Mem.head _ | apply List.Mem.tail)) (Nat.le_succ_of_le K.pl)) ?_; clear env; rintro _ w1 ⟨rfl, env⟩))
  go_loopw [32] (fun i wr => ∃ j : Nat, j ≤ off.length ∧ i = .int .i64 j ∧ FE w wr pp l [(8, rR p8 c8 PA.length PA), (7, rR p7 c7 GA.length GA), (6, rR p6 c6 PA.length PA), (5, rR p5 c5 GA.length GA), (4, rR p4 c4 PA.length PA), (3, rR p3 c3 GA.length GA), (2, zR pw cw off.length off), (1, zR pb cb off.length off), (0, zR pa ca off.length (mkL (-7) off j))]) (fun i _ => off.length - (RowKit.intOf i).toNat)
  case atStart => exact ⟨0, Nat.zero_le _, by go_num, env⟩
  case round =>
    clear env
    have hol := K.ol
    obtain ⟨j, hj, rfl, env⟩ := hrel
    by_cases hlt : j < off.length
    · obtain ⟨g, u, rfl, hc, hf⟩ := env.zcell (c := 0) (j := j) (by repeat (first | exact List.Mem.head _ | apply List.Mem.tail)) hlt
      have hlti : (j : Int) < off.length := by omega
      have h2 := env.zset (c := 0) (j := j) (-7) (by repeat (first | exact List.Mem.head _ | apply List.Mem.tail))
      rw [mkL_set _ _ hlt] at h2
      clear env
      go_wp2_with fail
      go_roundw
      case rel => exact ⟨j + 1, by omega, by go_num, h2⟩
      case measure => simp [RowKit.intOf]; omega
    · have he : j = off.length := by omega
      have hlti : ¬ (j : Int) < off.length := by omega
      rw [he, mkL_end] at env
      clear he
      go_wp2_with fail
      go_loopw [33] (fun i wr => ∃ j : Nat, j ≤ GA.length ∧ i = .int .i64 j ∧ FE w wr pp l [(8, rR p8 c8 PA.length PA), (7, rR p7 c7 GA.length GA), (6, rR p6 c6 PA.length PA), (5, rR p5 c5 GA.length GA), (4, rR p4 c4 PA.length PA), (3, rR p3 c3 GA.length (mkL ⟨-8, 0⟩ GA j)), (2, zR pw cw off.length off), (1, zR pb cb off.length off), (0, zR pa ca off.length (List.replicate off.length (-7)))]) (fun i _ => GA.length - (RowKit.intOf i).toNat)
      case atStart => exact ⟨0, Nat.zero_le _, by go_num, env⟩
      case round =>
        clear env hlti hlt hj
        have hol := K.gl
        obtain ⟨j, hj, rfl, env⟩ := hrel
        by_cases hlt : j < GA.length
        · obtain ⟨g, u, v, rfl, hc, hf, hc2, hf2⟩ := env.rcell (c := 3) (j := j) (by repeat (first | exact List.Mem.head _ | apply List.Mem.tail)) hlt
          have hlti : (j : Int) < GA.length := by omega
          have h2 := env.rset (L := mkL ⟨-8, 0⟩ GA j) (c := 3) (j := j) (-8) 0 (by rw [mkL_len _ _ hj]; exact hlt) (by repeat (first | exact List.Mem.head _ | apply List.Mem.tail))
          rw [mkL_set _ _ hlt] at h2
          clear env
          go_wp2_with fail
          go_roundw
          case rel => exact ⟨j + 1, by omega, by go_num, h2⟩
          case measure => simp [RowKit.intOf]; omega
        · have he : j = GA.length := by omega
          have hlti : ¬ (j : Int) < GA.length := by omega
          rw [he, mkL_end] at env
          clear he
          go_wp2_with fail
          go_loopw [34] (fun i wr => ∃ j : Nat, j ≤ PA.length ∧ i = .int .i64 j ∧ FE w wr pp l [(8, rR p8 c8 PA.length PA), (7, rR p7 c7 GA.length GA), (6, rR p6 c6 PA.length PA), (5, rR p5 c5 GA.length GA), (4, rR p4 c4 PA.length (mkL ⟨-9, 0⟩ PA j)), (3, rR p3 c3 GA.length (List.replicate GA.length ⟨-8, 0⟩)), (2, zR pw cw off.length off), (1, zR pb cb off.length off), (0, zR pa ca off.length (List.replicate off.length (-7)))]) (fun i _ => PA.length - (RowKit.intOf i).toNat)
          case atStart => exact ⟨0, Nat.zero_le _, by go_num, env⟩
          case round =>
            clear env hlti hlt hj
            have hol := K.pl
            obtain ⟨j, hj, rfl, env⟩ := hrel
            by_cases hlt : j < PA.length
            · obtain ⟨g, u, v, rfl, hc, hf, hc2, hf2⟩ := env.rcell (c := 4) (j := j) (by repeat (first | exact List.Mem.head _ | apply List.Mem.tail)) hlt
              have hlti : (j : Int) < PA.length := by omega
              have h2 := env.rset (L := mkL ⟨-9, 0⟩ PA j) (c := 4) (j := j) (-9) 0 (by rw [mkL_len _ _ hj]; exact hlt) (by repeat (first | exact List.Mem.head _ | apply List.Mem.tail))
              rw [mkL_set _ _ hlt] at h2
              clear env
              go_wp2_with fail
              go_roundw
              case rel => exact ⟨j + 1, by omega, by go_num, h2⟩
              case measure => simp [RowKit.intOf]; omega
            · have he : j = PA.length := by omega
              have hlti : ¬ (j : Int) < PA.length := by omega
              rw [he, mkL_end] at env
              clear he
              have h0 := K.ol
              have h1 := K.gl
              have h2 := K.pl
              obtain ⟨q0, k0, wa, hrun0, env⟩ := env.zapp (c := 0) (-7) (by repeat (first | exact List.Mem.head _ | apply List.Mem.tail)) (by omega) rfl
              obtain ⟨q1, k1, wb, hrun1, env⟩ := env.rapp (c := 3) (-8) 0 (by repeat (first | exact List.Mem.head _ | apply List.Mem.tail)) (by omega) rfl
              obtain ⟨q2, k2, wc, hrun2, env⟩ := env.rapp (c := 4) (-9) 0 (by repeat (first | exact List.Mem.head _ | apply List.Mem.tail)) (by omega) rfl
              clear h0 h1 h2
              have F1 : Hid (1 = 1) := ⟨rfl⟩
              have F2 : Hid (1 = 1) := ⟨rfl⟩
              have F3 : Hid (1 = 1) := ⟨rfl⟩
              have F4 : Hid (1 = 1) := ⟨rfl⟩
              have F5 : Hid (1 = 1) := ⟨rfl⟩
              have F6 : Hid (1 = 1) := ⟨rfl⟩
              have F7 : Hid (1 = 1) := ⟨rfl⟩
              go_wp2_with (first
                | (at_builtin; first
                  | (clear F1; refine (wpList_append_ex (by rfl) _ _ _ _ (by rfl) _ _ (by rfl) (by rfl) (fun a b => a = .slice q0 (off.length + 1) k0 ∧ b = wa) ⟨_, wa, hrun0, rfl, rfl⟩ ?_); rintro _ _ ⟨rfl, rfl⟩)
                  | (clear F2; refine (wpList_append_ex (by rfl) _ _ _ _ (by rfl) _ _ (by rfl) (by rfl) (fun a b => a = .slice q1 (GA.length + 1) k1 ∧ b = wb) ⟨_, wb, hrun1, rfl, rfl⟩ ?_); rintro _ _ ⟨rfl, rfl⟩)
                  | (clear F3; refine (wpList_append_ex (by rfl) _ _ _ _ (by rfl) _ _ (by rfl) (by rfl) (fun a b => a = .slice q2 (PA.length + 1) k2 ∧ b = wc) ⟨_, wc, hrun2, rfl, rfl⟩ ?_); rintro _ _ ⟨rfl, rfl⟩))
                | (go_at_call 11; refine (K.rooms env).mono ?_; clear env; rintro _ w1 ⟨px, cx, rfl, hsl, env⟩)
                | (go_at_call 10; refine (K.place 9 _ _ env hsl).mono ?_; clear hsl env; rintro _ w1 ⟨p9, c9, rfl, env⟩)
                | (clear F4; go_at_call 16; refine Calls.mono (fe_sameInts off pb pw cb cw 1 2 env (by repeat (first | exact List.Mem.head _ | apply List.Mem.tail)) (by repeat (first | exact List.Mem.head _ | apply List.Mem.tail)) K.ol) ?_; clear env; rintro _ w1 ⟨rfl, env⟩)
                | (go_at_call 16; refine Calls.mono (fe_sameInts off p9 pw c9 cw 9 2 env (by repeat (first | exact List.Mem.head _ | apply List.Mem.tail)) (by repeat (first | exact List.Mem.head _ | apply List.Mem.tail)) K.ol) ?_; clear env; rintro _ w1 ⟨rfl, env⟩)
                | (go_at_call 18; refine (K.ints _ pw cw (c := 2) env (by repeat (first | exact List.Mem.head _ | apply List.Mem.tail)) hsl).mono ?_; clear hsl env; rintro _ w1 ⟨py, cy, rfl, hsz, hsl, env⟩)
                | (go_at_call 20; refine (K.gaps 10 _ _ _ _ env hsl hsz).mono ?_; clear hsl hsz env; rintro _ w1 ⟨p10, c10, rfl, env⟩)
                | (go_at_call 19; refine (K.plain 11 _ _ _ _ env hsl hsz).mono ?_; clear hsl hsz env; rintro _ w1 ⟨p11, c11, rfl, env⟩)
                | (clear F5; go_at_call 24; refine Calls.mono (fe_sameRooms GA p5 p7 c5 c7 5 7 env (by repeat (first | exact List.Mem.head _ | apply List.Mem.tail)) (by repeat (first | exact List.Mem.head _ | apply List.Mem.tail)) K.gl) ?_; clear env; rintro _ w1 ⟨rfl, env⟩)
                | (clear F6; go_at_call 24; refine Calls.mono (fe_sameRooms GA p10 p7 c10 c7 10 7 env (by repeat (first | exact List.Mem.head _ | apply List.Mem.tail)) (by repeat (first | exact List.Mem.head _ | apply List.Mem.tail)) K.gl) ?_; clear env; rintro _ w1 ⟨rfl, env⟩)
                | (clear F7; go_at_call 24; refine Calls.mono (fe_sameRooms PA p6 p8 c6 c8 6 8 env (by repeat (first | exact List.Mem.head _ | apply List.Mem.tail)) (by repeat (first | exact List.Mem.head _ | apply List.Mem.tail)) (Nat.le_succ_of_le K.pl)) ?_; clear env; rintro _ w1 ⟨rfl, env⟩; have F8 : Hid (1 = 1) := ⟨rfl⟩)
                | (go_at_call 24; refine Calls.mono (fe_sameRooms PA p11 p8 c11 c8 11 8 env (by repeat (first | exact List.Mem.head _ | apply List.Mem.tail)) (by repeat (first | exact List.Mem.head _ | apply List.Mem.tail)) (Nat.le_succ_of_le K.pl)) ?_; clear env; rintro _ w1 ⟨rfl, env⟩)
                | (go_at_call 26; refine Calls.mono (fe_marked off.length (-7) pa q0 ca k0 0 0 env (by repeat (first | exact List.Mem.head _ | apply List.Mem.tail)) (by repeat (first | exact List.Mem.head _ | apply List.Mem.tail)) K.ol) ?_; clear env; rintro _ w1 ⟨rfl, env⟩)
                | (clear F8; go_at_call 27; refine Calls.mono (fe_sized GA.length (-8) p3 q1 c3 k1 3 3 env (by repeat (first | exact List.Mem.head _ | apply List.Mem.tail)) (by repeat (first | exact List.Mem.head _ | apply List.Mem.tail)) K.gl) ?_; clear env; rintro _ w1 ⟨rfl, env⟩)
                | (go_at_call 27; refine Calls.mono (fe_sized PA.length (-9) p4 q2 c4 k2 4 4 env (by repeat (first | exact List.Mem.head _ | apply List.Mem.tail)) (by repeat (first | exact List.Mem.head _ | apply List.Mem.tail)) (Nat.le_succ_of_le K.pl)) ?_; clear env; rintro _ w1 ⟨rfl, env⟩))
              go_ret
              exact ⟨rfl, env.bel⟩
end Go.Proofs.Ytjdinlgbfpkodaa

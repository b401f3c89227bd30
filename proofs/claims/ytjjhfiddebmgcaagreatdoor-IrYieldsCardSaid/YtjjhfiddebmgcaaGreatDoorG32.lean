/- IYc, IYd, IDl, IDz. -/
import Derived.Test.YtjjhfiddebmgcaaGreatDoorG31
import Derived.Test.YtjjhfiddebmgcaaGreatDoorG07
import Derived.Test.YtjjhfiddebmgcaaGreatDoorG28
namespace Go.Proofs.YtjjhfiddebmgcaaGreatDoor
open Go.ChangeShapes Go.WideShapes Go.ChangeAt Go.RowKit Go.Shelf Go.Maps
open J

set_option maxRecDepth 20000 in
set_option maxHeartbeats 4000000 in
theorem parts_no (f : Fm) (i : Int) (pp : Option Addr) (cp : Nat) (w : World) (tl : TkL w pp w.heap.size f.toks) (cA : IsAtC w f i pp cp) (hb : NotAt f i holdB) :
    Calls Tryz.prog 13 #[fmV f pp cp, .int .i64 i] w fun r w' => ∃ v, r = .returned v ∧ NRow w' w.heap.size v [] ∧ Below w.heap.size w w' := by
  have hF := fm_new w f pp cp
  have HB : Below w.heap.size w (w.alloc (fmO f pp cp)) := nbel _ _
  have HS : (w.alloc (fmO f pp cp)).heap.size = w.heap.size + 1 := World.size_alloc _ _
  generalize hW : w.alloc (fmO f pp cp) = W at hF HB HS
  simp only [fmO] at hW
  replace cA := cA W HB
  have F0 := hF.c0
  have F1 := hF.c1
  have F2 := hF.c2
  have F3 := hF.c3
  have F4 := hF.c4
  have F5 := hF.c5
  have F6 := hF.c6
  have F7 := hF.c7
  have F8 := hF.c8
  have F9 := hF.c9
  have F10 := hF.c10
  have F11 := hF.c11
  have F12 := hF.c12
  simp only [Nat.zero_add] at F1 F2 F3 F4 F5 F6 F7 F8 F9 F10 F11 F12
  cases hat : isAtB f i with
  | false =>
    rw [hat] at cA
    replace HB : Hid _ := ⟨HB⟩
    replace HS : Hid _ := ⟨HS⟩
    clear hF hb tl hat
    go_enter Tryz.func13, Tryz.ntmps13
    go_wp2_with (go_at_call 22; refine cA.mono ?_; rintro _ w1 ⟨rfl, hb1⟩; replace hb1 : Hid _ := ⟨hb1⟩)
    go_ret
    exact ⟨_, rfl, NRow.nil _ _, HB.out.trans (hb1.out.mono HB.out.size)⟩
  | true =>
    obtain ⟨b, t, rfl, ht, hp⟩ := hb.h hat
    rw [hat] at cA
    have hil := (List.getElem?_eq_some_iff.1 ht).1
    obtain ⟨g, o, _, _, rfl, hg, _⟩ := tl.at ht
    have hili : (b : Int) < f.toks.length := by omega
    have hll : f.toks.length ≤ 733007751850 := by have := tl.len; omega
    have hT : Hid (∀ W', Below w.heap.size w W' → ∃ pc cc, TkC W' g (o + b * 21) t pc cc) := ⟨fun W' hb => by
      obtain ⟨g', o', pc, cc, e, _, h1, _⟩ := (tl.below hb).at ht
      cases e
      exact ⟨pc, cc, h1⟩⟩
    have hY : Hid (∀ W', Below W.heap.size W W' → FmC W' w.heap.size 0 f (some ⟨g, o, none⟩) cp) := ⟨fun W' hb => hF.below (by omega) hb⟩
    have cP := fun W' => holdsParts_at t.op W'
    rw [show decide (t.op = 0 ∨ t.op = 4) = false from hp] at cP
    replace HB : Hid _ := ⟨HB⟩
    replace HS : Hid _ := ⟨HS⟩
    clear hF hb hat hp
    go_enter Tryz.func13, Tryz.ntmps13
    go_wp2_with (first
      | (go_at_call 22; refine cA.mono ?_; rintro _ w1 ⟨rfl, hb1⟩; obtain ⟨pc, cc, hTt⟩ := hT.out w1 (HB.out.trans (hb1.mono HB.out.size)); have z0 := hTt.c0; have y12 := (hY.out _ hb1).c12; simp only [Nat.zero_add] at y12; clear hTt; replace hb1 : Hid _ := ⟨hb1⟩)
      | (go_at_call 23; refine (cP _).mono ?_; rintro _ wq ⟨rfl, e⟩; obtain rfl : w1 = wq := e.symm))
    go_ret
    exact ⟨_, rfl, NRow.nil _ _, HB.out.trans (hb1.out.mono HB.out.size)⟩
set_option maxRecDepth 20000 in
set_option maxHeartbeats 4000000 in
theorem leaves_no (f : Fm) (i : Int) (pp : Option Addr) (cp : Nat) (w : World) (tl : TkL w pp w.heap.size f.toks) (cA : IsAtC w f i pp cp) (hb : NotAt f i leafB) :
    Calls Tryz.prog 14 #[fmV f pp cp, .int .i64 i] w fun r w' => ∃ v, r = .returned v ∧ NRow w' w.heap.size v [] ∧ Below w.heap.size w w' := by
  have hF := fm_new w f pp cp
  have HB : Below w.heap.size w (w.alloc (fmO f pp cp)) := nbel _ _
  have HS : (w.alloc (fmO f pp cp)).heap.size = w.heap.size + 1 := World.size_alloc _ _
  generalize hW : w.alloc (fmO f pp cp) = W at hF HB HS
  simp only [fmO] at hW
  replace cA := cA W HB
  have F0 := hF.c0
  have F1 := hF.c1
  have F2 := hF.c2
  have F3 := hF.c3
  have F4 := hF.c4
  have F5 := hF.c5
  have F6 := hF.c6
  have F7 := hF.c7
  have F8 := hF.c8
  have F9 := hF.c9
  have F10 := hF.c10
  have F11 := hF.c11
  have F12 := hF.c12
  simp only [Nat.zero_add] at F1 F2 F3 F4 F5 F6 F7 F8 F9 F10 F11 F12
  cases hat : isAtB f i with
  | false =>
    rw [hat] at cA
    replace HB : Hid _ := ⟨HB⟩
    replace HS : Hid _ := ⟨HS⟩
    clear hF hb tl hat
    go_enter Tryz.func14, Tryz.ntmps14
    go_wp2_with (go_at_call 22; refine cA.mono ?_; rintro _ w1 ⟨rfl, hb1⟩; replace hb1 : Hid _ := ⟨hb1⟩)
    go_ret
    exact ⟨_, rfl, NRow.nil _ _, HB.out.trans (hb1.out.mono HB.out.size)⟩
  | true =>
    obtain ⟨b, t, rfl, ht, hp⟩ := hb.h hat
    rw [hat] at cA
    have hil := (List.getElem?_eq_some_iff.1 ht).1
    obtain ⟨g, o, _, _, rfl, hg, _⟩ := tl.at ht
    have hili : (b : Int) < f.toks.length := by omega
    have hll : f.toks.length ≤ 733007751850 := by have := tl.len; omega
    have hT : Hid (∀ W', Below w.heap.size w W' → ∃ pc cc, TkC W' g (o + b * 21) t pc cc) := ⟨fun W' hb => by
      obtain ⟨g', o', pc, cc, e, _, h1, _⟩ := (tl.below hb).at ht
      cases e
      exact ⟨pc, cc, h1⟩⟩
    have hY : Hid (∀ W', Below W.heap.size W W' → FmC W' w.heap.size 0 f (some ⟨g, o, none⟩) cp) := ⟨fun W' hb => hF.below (by omega) hb⟩
    replace HB : Hid _ := ⟨HB⟩
    replace HS : Hid _ := ⟨HS⟩
    have hp' : ¬ (t.op = 2 ∧ ¬ t.pres = 2) := of_decide_eq_false hp
    by_cases h2 : t.op = 2
    · have b2 : (t.op == 2) = true := by simp [h2]
      have b2' : (t.op != 2) = false := by simp [h2]
      have b3 : (t.pres == 2) = true := by simp; omega
      clear hF hb hat hp hp' h2
      go_enter Tryz.func14, Tryz.ntmps14
      go_wp2_with (go_at_call 22; refine cA.mono ?_; rintro _ w1 ⟨rfl, hb1⟩; obtain ⟨pc, cc, hTt⟩ := hT.out w1 (HB.out.trans (hb1.mono HB.out.size)); have z0 := hTt.c0; have z8 := hTt.c8; have y12 := (hY.out _ hb1).c12; simp only [Nat.zero_add] at y12; clear hTt; replace hb1 : Hid _ := ⟨hb1⟩)
      go_ret
      exact ⟨_, rfl, NRow.nil _ _, HB.out.trans (hb1.out.mono HB.out.size)⟩
    · have b2 : (t.op == 2) = false := beq_eq_false_iff_ne.2 h2
      have b2' : (t.op != 2) = true := by simp [h2]
      clear hF hb hat hp hp' h2
      go_enter Tryz.func14, Tryz.ntmps14
      go_wp2_with (go_at_call 22; refine cA.mono ?_; rintro _ w1 ⟨rfl, hb1⟩; obtain ⟨pc, cc, hTt⟩ := hT.out w1 (HB.out.trans (hb1.mono HB.out.size)); have z0 := hTt.c0; have z8 := hTt.c8; have y12 := (hY.out _ hb1).c12; simp only [Nat.zero_add] at y12; clear hTt; replace hb1 : Hid _ := ⟨hb1⟩)
      go_ret
      exact ⟨_, rfl, NRow.nil _ _, HB.out.trans (hb1.out.mono HB.out.size)⟩
set_option maxRecDepth 20000 in
set_option maxHeartbeats 4000000 in
theorem leaves_some (f : Fm) (i : Int) (b n : Nat) (t : Tk) (pp : Option Addr) (cp : Nat) (w : World) (tl : TkL w pp w.heap.size f.toks) (cA : IsAtC w f i pp cp) (hb : BegAt f i b n t) (ho : leafB t = true) :
    Calls Tryz.prog 14 #[fmV f pp cp, .int .i64 i] w fun r w' => ∃ v, r = .returned v ∧ NRow w' w.heap.size v (lvF f.toks (b + 1) (n - (b + 1))) ∧ Below w.heap.size w w' := by
  obtain ⟨hz, rfl, ht, hn, hnl, hbn⟩ := hb
  have hil := (List.getElem?_eq_some_iff.1 ht).1
  have hF := fm_new w f pp cp
  have HB : Below w.heap.size w (w.alloc (fmO f pp cp)) := nbel _ _
  have HS : (w.alloc (fmO f pp cp)).heap.size = w.heap.size + 1 := World.size_alloc _ _
  generalize hW : w.alloc (fmO f pp cp) = W at hF HB HS
  simp only [fmO] at hW
  replace cA := cA W HB
  have F0 := hF.c0
  have F1 := hF.c1
  have F2 := hF.c2
  have F3 := hF.c3
  have F4 := hF.c4
  have F5 := hF.c5
  have F6 := hF.c6
  have F7 := hF.c7
  have F8 := hF.c8
  have F9 := hF.c9
  have F10 := hF.c10
  have F11 := hF.c11
  have F12 := hF.c12
  simp only [Nat.zero_add] at F1 F2 F3 F4 F5 F6 F7 F8 F9 F10 F11 F12
  have hat : isAtB f b = true := isAt_iff.2 ⟨hz, b, t, rfl, ht⟩
  rw [hat] at cA
  obtain ⟨g, o, _, _, rfl, hg, _⟩ := tl.at ht
  have hili : (b : Int) < f.toks.length := by omega
  have hT : Hid (∀ W', Below w.heap.size w W' → ∀ k u, f.toks[k]? = some u → ∃ pc cc, TkC W' g (o + k * 21) u pc cc) := ⟨fun W' hb k u hu => by
    obtain ⟨g', o', pc, cc, e, _, h1, _⟩ := (tl.below hb).at hu
    cases e
    exact ⟨pc, cc, h1⟩⟩
  have hY : Hid (∀ W', Below W.heap.size W W' → FmC W' w.heap.size 0 f (some ⟨g, o, none⟩) cp) := ⟨fun W' hb => hF.below (by omega) hb⟩
  have hll : f.toks.length ≤ 733007751850 := by have := tl.len; omega
  have hw1 : IntKind.i64.wrap ((b : Int) + 1) = (b : Int) + 1 := by rw [IntKind.wrap_i64]; omega
  replace HB : Hid _ := ⟨HB⟩
  replace HS : Hid _ := ⟨HS⟩
  have ho' : t.op = 2 ∧ ¬ t.pres = 2 := of_decide_eq_true ho
  have b2 : (t.op == 2) = true := by simp [ho'.1]
  have b2' : (t.op != 2) = false := by simp [ho'.1]
  have b3 : (t.pres == 2) = false := beq_eq_false_iff_ne.2 ho'.2
  have hlen : Hid ((lvF f.toks (b + 1) (n - (b + 1))).length ≤ n) := ⟨by have := lvF_length f.toks (n - (b + 1)) (b + 1); omega⟩
  clear hF ho hat hz ho'
  generalize hKe : lvF f.toks (b + 1) (n - (b + 1)) = KN at hlen ⊢
  replace hKe : Hid _ := ⟨hKe⟩
  go_enter Tryz.func14, Tryz.ntmps14
  go_wp2_with (go_at_call 22; refine cA.mono ?_; rintro _ w1 ⟨rfl, hb1⟩; obtain ⟨pc, cc, hTt⟩ := hT.out w1 (HB.out.trans (hb1.mono HB.out.size)) b t ht; have z0 := hTt.c0; have z8 := hTt.c8; have y12 := (hY.out _ hb1).c12; simp only [Nat.zero_add] at y12; clear hTt)
  clear F0 F1 F2 F3 F4 F5 F6 F7 F8 F9 F10 F11 F12 z0 z8 y12 cA
  replace hb1 : Hid _ := ⟨hb1⟩
  go_loopw [6, 5] (fun q6 q5 wr => ∃ (k : Nat) (ns : List Nat), q6 = .int .i64 k ∧ k ≤ n ∧ Hid (ns ++ lvF f.toks k (n - k) = KN) ∧ Hid (NRow wr W.heap.size q5 ns) ∧ Hid (Below W.heap.size W wr)) (fun q6 _ _ => n - (RowKit.intOf q6).toNat)
  case atStart => exact ⟨b + 1, [], by go_num, hbn, ⟨hKe.out⟩, ⟨NRow.nil _ _⟩, ⟨hb1.out⟩⟩
  case round =>
    obtain ⟨k, ns, rfl, hkn', hC, hI, hB⟩ := hrel
    have y12 := (hY.out _ hB.out).c12
    simp only [Nat.zero_add] at y12
    have hBw := HB.out.trans (hB.out.mono HB.out.size)
    obtain ⟨pc, cc, hTt⟩ := hT.out wr hBw b t ht
    have z20 := hTt.c20
    rw [hn] at z20
    have hn' : Hid _ := ⟨hn⟩
    clear hTt hn
    by_cases hlt0 : k < n
    · have hlt : (k : Int) < n := by omega
      have hkf : (k : Int) < f.toks.length := by omega
      obtain ⟨u, hu⟩ : ∃ u, f.toks[k]? = some u := ⟨f.toks[k], List.getElem?_eq_getElem (by omega)⟩
      have hC' := hC.out
      rw [show n - k = (n - (k + 1)) + 1 by omega] at hC'
      replace hBw : Hid _ := ⟨hBw⟩
      obtain ⟨pu, cu, hTu⟩ := hT.out wr hBw.out k u hu
      have lT : Hid _ := ⟨hTu.load⟩
      have sT : Hid _ := ⟨fun z hz => st_new wr z hz u pu cu⟩
      have hT2 := tk_of (thnK wr (tkO u pu cu))
      have t0 := hT2.c0
      have t8 := hT2.c8
      simp only [Nat.zero_add] at t8
      have hw2 : IntKind.i64.wrap ((k : Int) + 1) = (k : Int) + 1 := by rw [IntKind.wrap_i64]; omega
      have hbx : Hid (Below W.heap.size wr (wr.alloc (tkO u pu cu))) := ⟨(nbel wr _).mono hB.out.size⟩
      clear hC hTu hT2
      cases hlv : lvB u with
      | true =>
        rw [lvF_yes hu hlv] at hC'
        have hlv' : u.op = 14 ∧ ¬ u.pres = 2 := of_decide_eq_true hlv
        have c2 : (u.op == 14) = true := by simp [hlv'.1]
        have c3 : (u.pres == 2) = false := beq_eq_false_iff_ne.2 hlv'.2
        have c3' : (u.pres != 2) = true := by simp [hlv'.2]
        have hrl : ns.length + 1 ≤ 977343669134 := by
          have h1 := hlen.out
          rw [← hC', List.length_append, List.length_append] at h1
          simp only [List.length_singleton] at h1
          omega
        have hC2 : Hid ((ns ++ [k]) ++ lvF f.toks (k + 1) (n - (k + 1)) = KN) := ⟨by rw [← hC']; simp⟩
        have hap := n_ap k (hI.out.below (nbel wr (tkO u pu cu))) hrl (Nat.le_trans hB.out.size (nbel wr (tkO u pu cu)).size)
        rw [World.size_alloc] at hap
        replace hap : Hid _ := ⟨hap⟩
        clear hC' hlv hlv'
        go_wp2_with (first
          | (guard_target =~ wpList _ _ _ (Oper.mk _ (Op.load 43 _) _ _ _ _ :: _) _ _; go_must (refine wpList_ld 43 (.tmp 45) rfl rfl _ _ rfl lT.out ?_); simp only [pts])
          | (guard_target =~ wpList _ _ _ (Oper.mk _ (Op.store 43 _ _) _ _ _ _ :: _) _ _; go_must (refine wpList_st 43 (.tmp 7) (.tmp 46) rfl rfl _ _ rfl rfl (sT.out _ rfl) ?_); simp only [pts])
          | (at_builtin; go_must (refine (ap_step (by rfl) _ _ _ _ (by rfl) _ _ (by rfl) (by rfl) _ hap.out ?_)); rintro v' w' ⟨q1, q2⟩; replace q1 : Hid _ := ⟨q1⟩; replace q2 : Hid _ := ⟨q2⟩))
        go_roundw
        case rel => exact ⟨k + 1, ns ++ [k], by go_num, by omega, hC2, ⟨q1.out⟩, ⟨hB.out.trans (hbx.out.trans q2.out)⟩⟩
        case measure => simp [RowKit.intOf]; omega
      | false =>
        rw [lvF_no hu hlv] at hC'
        have hC2 : Hid (ns ++ lvF f.toks (k + 1) (n - (k + 1)) = KN) := ⟨hC'⟩
        have hlv' : ¬ (u.op = 14 ∧ ¬ u.pres = 2) := of_decide_eq_false hlv
        have hI2 : Hid _ := ⟨hI.out.below (nbel wr (tkO u pu cu))⟩
        clear hC' hlv
        by_cases h14 : u.op = 14
        · have c2 : (u.op == 14) = true := by simp [h14]
          have c3 : (u.pres == 2) = true := by simp; omega
          have c3' : (u.pres != 2) = false := by simp; omega
          clear hlv' h14
          go_wp2_with (first
            | (guard_target =~ wpList _ _ _ (Oper.mk _ (Op.load 43 _) _ _ _ _ :: _) _ _; go_must (refine wpList_ld 43 (.tmp 45) rfl rfl _ _ rfl lT.out ?_); simp only [pts])
            | (guard_target =~ wpList _ _ _ (Oper.mk _ (Op.store 43 _ _) _ _ _ _ :: _) _ _; go_must (refine wpList_st 43 (.tmp 7) (.tmp 46) rfl rfl _ _ rfl rfl (sT.out _ rfl) ?_); simp only [pts]))
          go_roundw
          case rel => exact ⟨k + 1, ns, by go_num, by omega, hC2, hI2, ⟨hB.out.trans hbx.out⟩⟩
          case measure => simp [RowKit.intOf]; omega
        · have c2 : (u.op == 14) = false := beq_eq_false_iff_ne.2 h14
          clear hlv' h14
          go_wp2_with (first
            | (guard_target =~ wpList _ _ _ (Oper.mk _ (Op.load 43 _) _ _ _ _ :: _) _ _; go_must (refine wpList_ld 43 (.tmp 45) rfl rfl _ _ rfl lT.out ?_); simp only [pts])
            | (guard_target =~ wpList _ _ _ (Oper.mk _ (Op.store 43 _ _) _ _ _ _ :: _) _ _; go_must (refine wpList_st 43 (.tmp 7) (.tmp 46) rfl rfl _ _ rfl rfl (sT.out _ rfl) ?_); simp only [pts]))
          go_roundw
          case rel => exact ⟨k + 1, ns, by go_num, by omega, hC2, hI2, ⟨hB.out.trans hbx.out⟩⟩
          case measure => simp [RowKit.intOf]; omega
    · obtain rfl : k = n := by omega
      have hC' := hC.out
      rw [Nat.sub_self, lvF, List.append_nil] at hC'
      have hI2 : Hid (NRow wr w.heap.size u5 KN) := ⟨by rw [← hC']; exact hI.out.low (by have := HS.out; omega)⟩
      replace hBw : Hid _ := ⟨hBw⟩
      have hge : decide ((k : Int) < k) = false := by simp
      clear hC hC' hlt0
      go_wp2_with fail
      go_ret
      exact ⟨_, rfl, hI2.out, hBw.out⟩
end Go.Proofs.YtjjhfiddebmgcaaGreatDoor
namespace Go.Proofs.YtjjhfiddebmgcaaGreatDoor
open Go.ChangeShapes Go.WideShapes Go.ChangeAt Go.RowKit Go.Shelf Go.Maps

/-- The document's Check, as its callers meet it. -/
def RefCkC (w : World) (f : Fm) (pp : Option Addr) (cp : Nat) : Prop := ∀ W, Below w.heap.size w W → Calls Tryz.prog 10 #[fmV f pp cp] W fun r w' => r = .returned (.tuple #[.int .i64 (errZ (chkZ f)), .int .i64 (atZ (chkZ f))]) ∧ Below W.heap.size W w'
set_option maxRecDepth 20000 in
set_option maxHeartbeats 4000000 in
theorem refParts_no (f : Fm) (i : Int) (pp : Option Addr) (cp : Nat) (w : World) (tl : TkL w pp w.heap.size f.toks) (cA : RefCkC w f pp cp) (hb : NotAt f i holdB) :
    Calls Tryz.prog 4 #[fmV f pp cp, .int .i64 i] w fun r w' => ∃ v, r = .returned v ∧ NRow w' w.heap.size v [] ∧ Below w.heap.size w w' := by
  have hF := fm_new w f pp cp
  have HB : Below w.heap.size w (w.alloc (fmO f pp cp)) := nbel _ _
  have HS : (w.alloc (fmO f pp cp)).heap.size = w.heap.size + 1 := World.size_alloc _ _
  generalize hW : w.alloc (fmO f pp cp) = W at hF HB HS
  simp only [fmO] at hW
  replace cA := cA W HB
  have F0 := hF.c0
  have F1 := hF.c1
  have F2 := hF.c2
  have F3 := hF.c3
  have F4 := hF.c4
  have F5 := hF.c5
  have F6 := hF.c6
  have F7 := hF.c7
  have F8 := hF.c8
  have F9 := hF.c9
  have F10 := hF.c10
  have F11 := hF.c11
  have F12 := hF.c12
  simp only [Nat.zero_add] at F1 F2 F3 F4 F5 F6 F7 F8 F9 F10 F11 F12
  have hY : Hid (∀ W', Below W.heap.size W W' → FmC W' w.heap.size 0 f pp cp) := ⟨fun W' hb => hF.below (by omega) hb⟩
  replace HB : Hid _ := ⟨HB⟩
  replace HS : Hid _ := ⟨HS⟩
  generalize atZ (chkZ f) = at_ at cA
  by_cases hz : chkZ f = none
  · have he : errZ (chkZ f) = 0 := by rw [hz]; rfl
    rw [he] at cA
    by_cases h0 : i < 0
    · have d0 : decide (i < 0) = true := decide_eq_true h0
      clear hF hb tl hz he h0
      go_enter Tryz.func4, Tryz.ntmps4
      go_wp2_with (go_at_call 10; refine cA.mono ?_; rintro _ w1 ⟨rfl, hb1⟩; have y12 := (hY.out _ hb1).c12; simp only [Nat.zero_add] at y12; replace hb1 : Hid _ := ⟨hb1⟩)
      go_ret
      exact ⟨_, rfl, NRow.nil _ _, HB.out.trans (hb1.out.mono HB.out.size)⟩
    have d0 : decide (i < 0) = false := decide_eq_false h0
    by_cases h1 : i < f.toks.length
    · have hat : isAtB f i = true := by unfold isAtB; rw [hz]; simp; omega
      obtain ⟨b, t, rfl, ht, hp⟩ := hb.h hat
      have hil := (List.getElem?_eq_some_iff.1 ht).1
      obtain ⟨g, o, _, _, rfl, hg, _⟩ := tl.at ht
      have hili : (b : Int) < f.toks.length := by omega
      have d1 : decide ((f.toks.length : Int) ≤ b) = false := by simp; omega
      have d1' : decide (f.toks.length ≤ b) = false := by simp; omega
      have hll : f.toks.length ≤ 733007751850 := by have := tl.len; omega
      have hT : Hid (∀ W', Below w.heap.size w W' → ∃ pc cc, TkC W' g (o + b * 21) t pc cc) := ⟨fun W' hb => by
        obtain ⟨g', o', pc, cc, e, _, h1, _⟩ := (tl.below hb).at ht
        cases e
        exact ⟨pc, cc, h1⟩⟩
      have hp' : ¬ (t.op = 0 ∨ t.op = 4) := of_decide_eq_false hp
      have b0 : (t.op != 0) = true := by simp; omega
      have b4 : (t.op != 4) = true := by simp; omega
      have b0' : (t.op == 0) = false := by simp; omega
      have b4' : (t.op == 4) = false := by simp; omega
      clear hF hb hat hp hp' hz he h0 h1
      go_enter Tryz.func4, Tryz.ntmps4
      go_wp2_with (go_at_call 10; refine cA.mono ?_; rintro _ w1 ⟨rfl, hb1⟩; obtain ⟨pc, cc, hTt⟩ := hT.out w1 (HB.out.trans (hb1.mono HB.out.size)); have z0 := hTt.c0; have z8 := hTt.c8; have y12 := (hY.out _ hb1).c12; simp only [Nat.zero_add] at y12; clear hTt; replace hb1 : Hid _ := ⟨hb1⟩)
      go_ret
      exact ⟨_, rfl, NRow.nil _ _, HB.out.trans (hb1.out.mono HB.out.size)⟩
    · have d1 : decide (i ≥ (f.toks.length : Int)) = true := by simp; omega
      clear hF hb tl hz he
      go_enter Tryz.func4, Tryz.ntmps4
      go_wp2_with (go_at_call 10; refine cA.mono ?_; rintro _ w1 ⟨rfl, hb1⟩; have y12 := (hY.out _ hb1).c12; simp only [Nat.zero_add] at y12; replace hb1 : Hid _ := ⟨hb1⟩)
      go_ret
      exact ⟨_, rfl, NRow.nil _ _, HB.out.trans (hb1.out.mono HB.out.size)⟩
  · have he : (errZ (chkZ f) == 0) = false := by
      cases hc : chkZ f with
      | none => exact absurd hc hz
      | some x => rfl
    have he' : (errZ (chkZ f) != 0) = true := by rw [bne, he]; rfl
    clear hF hb tl hz
    generalize errZ (chkZ f) = e at he he' cA
    go_enter Tryz.func4, Tryz.ntmps4
    go_wp2_with (go_at_call 10; refine cA.mono ?_; rintro _ w1 ⟨rfl, hb1⟩; replace hb1 : Hid _ := ⟨hb1⟩)
    go_ret
    exact ⟨_, rfl, NRow.nil _ _, HB.out.trans (hb1.out.mono HB.out.size)⟩
set_option maxRecDepth 20000 in
set_option maxHeartbeats 4000000 in
theorem refLeaves_no (f : Fm) (i : Int) (pp : Option Addr) (cp : Nat) (w : World) (tl : TkL w pp w.heap.size f.toks) (cA : RefCkC w f pp cp) (hb : NotAt f i leafB) :
    Calls Tryz.prog 7 #[fmV f pp cp, .int .i64 i] w fun r w' => ∃ v, r = .returned v ∧ NRow w' w.heap.size v [] ∧ Below w.heap.size w w' := by
  have hF := fm_new w f pp cp
  have HB : Below w.heap.size w (w.alloc (fmO f pp cp)) := nbel _ _
  have HS : (w.alloc (fmO f pp cp)).heap.size = w.heap.size + 1 := World.size_alloc _ _
  generalize hW : w.alloc (fmO f pp cp) = W at hF HB HS
  simp only [fmO] at hW
  replace cA := cA W HB
  have F0 := hF.c0
  have F1 := hF.c1
  have F2 := hF.c2
  have F3 := hF.c3
  have F4 := hF.c4
  have F5 := hF.c5
  have F6 := hF.c6
  have F7 := hF.c7
  have F8 := hF.c8
  have F9 := hF.c9
  have F10 := hF.c10
  have F11 := hF.c11
  have F12 := hF.c12
  simp only [Nat.zero_add] at F1 F2 F3 F4 F5 F6 F7 F8 F9 F10 F11 F12
  have hY : Hid (∀ W', Below W.heap.size W W' → FmC W' w.heap.size 0 f pp cp) := ⟨fun W' hb => hF.below (by omega) hb⟩
  replace HB : Hid _ := ⟨HB⟩
  replace HS : Hid _ := ⟨HS⟩
  generalize atZ (chkZ f) = at_ at cA
  by_cases hz : chkZ f = none
  · have he : errZ (chkZ f) = 0 := by rw [hz]; rfl
    rw [he] at cA
    by_cases h0 : i < 0
    · have d0 : decide (i < 0) = true := decide_eq_true h0
      clear hF hb tl hz he h0
      go_enter Tryz.func7, Tryz.ntmps7
      go_wp2_with (go_at_call 10; refine cA.mono ?_; rintro _ w1 ⟨rfl, hb1⟩; have y12 := (hY.out _ hb1).c12; simp only [Nat.zero_add] at y12; replace hb1 : Hid _ := ⟨hb1⟩)
      go_ret
      exact ⟨_, rfl, NRow.nil _ _, HB.out.trans (hb1.out.mono HB.out.size)⟩
    have d0 : decide (i < 0) = false := decide_eq_false h0
    by_cases h1 : i < f.toks.length
    · have hat : isAtB f i = true := by unfold isAtB; rw [hz]; simp; omega
      obtain ⟨b, t, rfl, ht, hp⟩ := hb.h hat
      have hil := (List.getElem?_eq_some_iff.1 ht).1
      obtain ⟨g, o, _, _, rfl, hg, _⟩ := tl.at ht
      have hili : (b : Int) < f.toks.length := by omega
      have d1 : decide ((f.toks.length : Int) ≤ b) = false := by simp; omega
      have d1' : decide (f.toks.length ≤ b) = false := by simp; omega
      have hll : f.toks.length ≤ 733007751850 := by have := tl.len; omega
      have hT : Hid (∀ W', Below w.heap.size w W' → ∃ pc cc, TkC W' g (o + b * 21) t pc cc) := ⟨fun W' hb => by
        obtain ⟨g', o', pc, cc, e, _, h1, _⟩ := (tl.below hb).at ht
        cases e
        exact ⟨pc, cc, h1⟩⟩
      have hp' : ¬ (t.op = 2 ∧ ¬ t.pres = 2) := of_decide_eq_false hp
      by_cases h2 : t.op = 2
      · have b2 : (t.op == 2) = true := by simp [h2]
        have b2' : (t.op != 2) = false := by simp [h2]
        have b3 : (t.pres == 2) = true := by simp; omega
        clear hF hb hat hp hp' hz he h0 h1 h2
        go_enter Tryz.func7, Tryz.ntmps7
        go_wp2_with (go_at_call 10; refine cA.mono ?_; rintro _ w1 ⟨rfl, hb1⟩; obtain ⟨pc, cc, hTt⟩ := hT.out w1 (HB.out.trans (hb1.mono HB.out.size)); have z0 := hTt.c0; have z8 := hTt.c8; have y12 := (hY.out _ hb1).c12; simp only [Nat.zero_add] at y12; clear hTt; replace hb1 : Hid _ := ⟨hb1⟩)
        go_ret
        exact ⟨_, rfl, NRow.nil _ _, HB.out.trans (hb1.out.mono HB.out.size)⟩
      · have b2 : (t.op == 2) = false := beq_eq_false_iff_ne.2 h2
        have b2' : (t.op != 2) = true := by simp [h2]
        clear hF hb hat hp hp' hz he h0 h1 h2
        go_enter Tryz.func7, Tryz.ntmps7
        go_wp2_with (go_at_call 10; refine cA.mono ?_; rintro _ w1 ⟨rfl, hb1⟩; obtain ⟨pc, cc, hTt⟩ := hT.out w1 (HB.out.trans (hb1.mono HB.out.size)); have z0 := hTt.c0; have z8 := hTt.c8; have y12 := (hY.out _ hb1).c12; simp only [Nat.zero_add] at y12; clear hTt; replace hb1 : Hid _ := ⟨hb1⟩)
        go_ret
        exact ⟨_, rfl, NRow.nil _ _, HB.out.trans (hb1.out.mono HB.out.size)⟩
    · have d1 : decide (i ≥ (f.toks.length : Int)) = true := by simp; omega
      clear hF hb tl hz he
      go_enter Tryz.func7, Tryz.ntmps7
      go_wp2_with (go_at_call 10; refine cA.mono ?_; rintro _ w1 ⟨rfl, hb1⟩; have y12 := (hY.out _ hb1).c12; simp only [Nat.zero_add] at y12; replace hb1 : Hid _ := ⟨hb1⟩)
      go_ret
      exact ⟨_, rfl, NRow.nil _ _, HB.out.trans (hb1.out.mono HB.out.size)⟩
  · have he : (errZ (chkZ f) == 0) = false := by
      cases hc : chkZ f with
      | none => exact absurd hc hz
      | some x => rfl
    have he' : (errZ (chkZ f) != 0) = true := by rw [bne, he]; rfl
    clear hF hb tl hz
    generalize errZ (chkZ f) = e at he he' cA
    go_enter Tryz.func7, Tryz.ntmps7
    go_wp2_with (go_at_call 10; refine cA.mono ?_; rintro _ w1 ⟨rfl, hb1⟩; replace hb1 : Hid _ := ⟨hb1⟩)
    go_ret
    exact ⟨_, rfl, NRow.nil _ _, HB.out.trans (hb1.out.mono HB.out.size)⟩
set_option maxRecDepth 20000 in
set_option maxHeartbeats 4000000 in
theorem refParts_some (f : Fm) (i : Int) (b n : Nat) (t : Tk) (ks : List Nat) (pp : Option Addr) (cp : Nat) (w : World) (tl : TkL w pp w.heap.size f.toks) (cA : RefCkC w f pp cp) (hb : BegAt f i b n t) (ho : holdB t = true) (hk : Chn f.toks (b + 1) ks n) (hkn : ∀ k ∈ ks, b < k ∧ k < n) (hks : ks.Pairwise (· < ·)) :
    Calls Tryz.prog 4 #[fmV f pp cp, .int .i64 i] w fun r w' => ∃ v, r = .returned v ∧ NRow w' w.heap.size v ks ∧ Below w.heap.size w w' := by
  obtain ⟨hz, rfl, ht, hn, hnl, hbn⟩ := hb
  have hil := (List.getElem?_eq_some_iff.1 ht).1
  have hF := fm_new w f pp cp
  have HB : Below w.heap.size w (w.alloc (fmO f pp cp)) := nbel _ _
  have HS : (w.alloc (fmO f pp cp)).heap.size = w.heap.size + 1 := World.size_alloc _ _
  generalize hW : w.alloc (fmO f pp cp) = W at hF HB HS
  simp only [fmO] at hW
  replace cA := cA W HB
  have F0 := hF.c0
  have F1 := hF.c1
  have F2 := hF.c2
  have F3 := hF.c3
  have F4 := hF.c4
  have F5 := hF.c5
  have F6 := hF.c6
  have F7 := hF.c7
  have F8 := hF.c8
  have F9 := hF.c9
  have F10 := hF.c10
  have F11 := hF.c11
  have F12 := hF.c12
  simp only [Nat.zero_add] at F1 F2 F3 F4 F5 F6 F7 F8 F9 F10 F11 F12
  have he : errZ (chkZ f) = 0 := by rw [hz]; rfl
  rw [he] at cA
  generalize atZ (chkZ f) = at_ at cA
  obtain ⟨g, o, _, _, rfl, hg, _⟩ := tl.at ht
  have hili : (b : Int) < f.toks.length := by omega
  have d0 : decide ((b : Int) < 0) = false := by simp
  have d1 : decide ((f.toks.length : Int) ≤ b) = false := by simp; omega
  have d1' : decide (f.toks.length ≤ b) = false := by simp; omega
  have hT : Hid (∀ W', Below w.heap.size w W' → ∀ k u, f.toks[k]? = some u → ∃ pc cc, TkC W' g (o + k * 21) u pc cc) := ⟨fun W' hb k u hu => by
    obtain ⟨g', o', pc, cc, e, _, h1, _⟩ := (tl.below hb).at hu
    cases e
    exact ⟨pc, cc, h1⟩⟩
  have hY : Hid (∀ W', Below W.heap.size W W' → FmC W' w.heap.size 0 f (some ⟨g, o, none⟩) cp) := ⟨fun W' hb => hF.below (by omega) hb⟩
  have hll : f.toks.length ≤ 733007751850 := by have := tl.len; omega
  have hw1 : IntKind.i64.wrap ((b : Int) + 1) = (b : Int) + 1 := by rw [IntKind.wrap_i64]; omega
  replace HB : Hid _ := ⟨HB⟩
  replace HS : Hid _ := ⟨HS⟩
  have hkl : Hid (ks.length ≤ n) := ⟨rise_length hks fun k hk => (hkn k hk).2⟩
  replace hks : Hid _ := ⟨hks⟩
  have ho' : t.op = 0 ∨ t.op = 4 := of_decide_eq_true ho
  have key : Hid (∀ Q : Bool → Bool → Prop, Q true false → Q false true → Q (t.op == 0) (t.op == 4)) := ⟨fun Q h1 h2 => by rcases ho' with h | h <;> rw [h] <;> assumption⟩
  suffices hh : ∀ x y : Bool, (t.op == 0) = x → (t.op == 4) = y → (t.op != 0) = !x → (t.op != 4) = !y → (x = true ∨ (x = false ∧ y = true)) → Calls Tryz.prog 4 #[fmV f (some ⟨g, o, none⟩) cp, .int .i64 b] w fun r w' => ∃ v, r = .returned v ∧ NRow w' w.heap.size v ks ∧ Below w.heap.size w w' from
    hh _ _ rfl rfl rfl rfl (by rcases ho' with h | h <;> rw [h] <;> decide)
  intro x y hx hy hx' hy' hxy
  clear hF ho hz he ho' key
  rcases hxy with rfl | ⟨rfl, rfl⟩
  all_goals
    simp only [Bool.not_true, Bool.not_false] at hx' hy'
    go_enter Tryz.func4, Tryz.ntmps4
    go_wp2_with (go_at_call 10; refine cA.mono ?_; rintro _ w1 ⟨rfl, hb1⟩; obtain ⟨pc, cc, hTt⟩ := hT.out w1 (HB.out.trans (hb1.mono HB.out.size)) b t ht; have z0 := hTt.c0; have z8 := hTt.c8; have y12 := (hY.out _ hb1).c12; simp only [Nat.zero_add] at y12; clear hTt)
    clear F0 F1 F2 F3 F4 F5 F6 F7 F8 F9 F10 F11 F12 z0 z8 y12 cA
    replace hb1 : Hid _ := ⟨hb1⟩
    go_loopw [8, 5] (fun q8 q5 wr => ∃ (k : Nat) (ks1 ks2 : List Nat), q8 = .int .i64 k ∧ k ≤ n ∧ Hid (ks = ks1 ++ ks2 ∧ Chn f.toks k ks2 n) ∧ Hid (NRow wr W.heap.size q5 ks1) ∧ Hid (Below W.heap.size W wr)) (fun q8 _ _ => n - (RowKit.intOf q8).toNat)
    case atStart => exact ⟨b + 1, [], ks, by go_num, hbn, ⟨rfl, hk⟩, ⟨NRow.nil _ _⟩, ⟨hb1.out⟩⟩
    case round =>
      obtain ⟨k, ks1, ks2, rfl, hkn', hC, hI, hB⟩ := hrel
      have y12 := (hY.out _ hB.out).c12
      simp only [Nat.zero_add] at y12
      have hBw := HB.out.trans (hB.out.mono HB.out.size)
      obtain ⟨pc, cc, hTt⟩ := hT.out wr hBw b t ht
      have z20 := hTt.c20
      rw [hn] at z20
      have hn' : Hid _ := ⟨hn⟩
      clear hTt hn
      cases ks2 with
      | nil =>
        obtain ⟨e1, e2⟩ := hC.out
        obtain rfl : k = n := e2
        have hI2 := hI.out.low (base' := w.heap.size) (by have := HS.out; omega)
        have e3 : ks1 = ks := by rw [e1, List.append_nil]
        rw [e3] at hI2
        replace hI2 : Hid _ := ⟨hI2⟩
        replace hBw : Hid _ := ⟨hBw⟩
        clear hC e1 e3
        go_wp2_with fail
        go_ret
        exact ⟨_, rfl, hI2.out, hBw.out⟩
      | cons k' r =>
        obtain ⟨e1, rfl, u, m, hu, hum, hC2⟩ := hC.out
        have hkm := hkn k (by rw [e1]; simp)
        have hlt : (k : Int) < n := by omega
        have hkf : (k : Int) < f.toks.length := by omega
        have hmn : m < n ∧ k ≤ m := by
          cases r with
          | nil => have : m + 1 = n := hC2; omega
          | cons k2 r2 =>
            obtain rfl : m + 1 = k2 := hC2.1
            have h1 := hkn (m + 1) (by rw [e1]; simp)
            have h2 := hks.out
            rw [e1, List.pairwise_append, List.pairwise_cons] at h2
            have := h2.2.1.1 (m + 1) (by simp)
            omega
        have hrl : ks1.length + 1 ≤ 977343669134 := by
          have h1 := hkl.out
          rw [e1, List.length_append, List.length_cons] at h1
          omega
        have e1' : Hid (ks = (ks1 ++ [k]) ++ r) := ⟨by rw [e1]; simp⟩
        replace hC2 : Hid _ := ⟨hC2⟩
        replace hBw : Hid _ := ⟨hBw⟩
        obtain ⟨pu, cu, hTu⟩ := hT.out wr hBw.out k u hu
        have u20 := hTu.c20
        rw [hum] at u20
        clear hC hTu hum e1
        have hap : Hid _ := ⟨n_ap k hI.out hrl (Nat.le_trans (Nat.le_refl _) hB.out.size)⟩
        have hw2 : IntKind.i64.wrap ((m : Int) + 1) = (m : Int) + 1 := by rw [IntKind.wrap_i64]; omega
        have G : Hid (∀ W', Below W.heap.size wr W' → W'.cell? ⟨w.heap.size, 12, none⟩ = some (.slice (some ⟨g, o, none⟩) f.toks.length cp) ∧ W'.cell? ⟨g, o + k * 21 + 20, none⟩ = some (.int .i64 (m : Int))) := ⟨fun W' hb' => ⟨(hb'.cell (p := ⟨w.heap.size, 12, none⟩) (by have := HS.out; show w.heap.size < W.heap.size; omega)).trans y12, (hb'.cell (p := ⟨g, o + k * 21 + 20, none⟩) (by have := HS.out; show g < W.heap.size; omega)).trans u20⟩⟩
        go_wp2_with (at_builtin; go_must (refine (ap_step (by rfl) _ _ _ _ (by rfl) _ _ (by rfl) (by rfl) _ hap.out ?_)); rintro v' w' ⟨q1, q2⟩; obtain ⟨y12', u20'⟩ := G.out w' q2; replace q1 : Hid _ := ⟨q1⟩; replace q2 : Hid _ := ⟨q2⟩)
        go_roundw
        case rel => exact ⟨m + 1, ks1 ++ [k], r, by go_num, by omega, ⟨e1'.out, hC2.out⟩, ⟨q1.out⟩, ⟨hB.out.trans q2.out⟩⟩
        case measure => simp [RowKit.intOf]; omega
set_option maxRecDepth 20000 in
set_option maxHeartbeats 4000000 in
theorem refLeaves_some (f : Fm) (i : Int) (b n : Nat) (t : Tk) (pp : Option Addr) (cp : Nat) (w : World) (tl : TkL w pp w.heap.size f.toks) (cA : RefCkC w f pp cp) (hb : BegAt f i b n t) (ho : leafB t = true) :
    Calls Tryz.prog 7 #[fmV f pp cp, .int .i64 i] w fun r w' => ∃ v, r = .returned v ∧ NRow w' w.heap.size v (lvF f.toks (b + 1) (n - (b + 1))) ∧ Below w.heap.size w w' := by
  obtain ⟨hz, rfl, ht, hn, hnl, hbn⟩ := hb
  have hil := (List.getElem?_eq_some_iff.1 ht).1
  have hF := fm_new w f pp cp
  have HB : Below w.heap.size w (w.alloc (fmO f pp cp)) := nbel _ _
  have HS : (w.alloc (fmO f pp cp)).heap.size = w.heap.size + 1 := World.size_alloc _ _
  generalize hW : w.alloc (fmO f pp cp) = W at hF HB HS
  simp only [fmO] at hW
  replace cA := cA W HB
  have F0 := hF.c0
  have F1 := hF.c1
  have F2 := hF.c2
  have F3 := hF.c3
  have F4 := hF.c4
  have F5 := hF.c5
  have F6 := hF.c6
  have F7 := hF.c7
  have F8 := hF.c8
  have F9 := hF.c9
  have F10 := hF.c10
  have F11 := hF.c11
  have F12 := hF.c12
  simp only [Nat.zero_add] at F1 F2 F3 F4 F5 F6 F7 F8 F9 F10 F11 F12
  have he : errZ (chkZ f) = 0 := by rw [hz]; rfl
  rw [he] at cA
  generalize atZ (chkZ f) = at_ at cA
  obtain ⟨g, o, _, _, rfl, hg, _⟩ := tl.at ht
  have hili : (b : Int) < f.toks.length := by omega
  have d0 : decide ((b : Int) < 0) = false := by simp
  have d1 : decide ((f.toks.length : Int) ≤ b) = false := by simp; omega
  have d1' : decide (f.toks.length ≤ b) = false := by simp; omega
  have hT : Hid (∀ W', Below w.heap.size w W' → ∀ k u, f.toks[k]? = some u → ∃ pc cc, TkC W' g (o + k * 21) u pc cc) := ⟨fun W' hb k u hu => by
    obtain ⟨g', o', pc, cc, e, _, h1, _⟩ := (tl.below hb).at hu
    cases e
    exact ⟨pc, cc, h1⟩⟩
  have hY : Hid (∀ W', Below W.heap.size W W' → FmC W' w.heap.size 0 f (some ⟨g, o, none⟩) cp) := ⟨fun W' hb => hF.below (by omega) hb⟩
  have hll : f.toks.length ≤ 733007751850 := by have := tl.len; omega
  have hw1 : IntKind.i64.wrap ((b : Int) + 1) = (b : Int) + 1 := by rw [IntKind.wrap_i64]; omega
  replace HB : Hid _ := ⟨HB⟩
  replace HS : Hid _ := ⟨HS⟩
  have ho' : t.op = 2 ∧ ¬ t.pres = 2 := of_decide_eq_true ho
  have b2 : (t.op == 2) = true := by simp [ho'.1]
  have b2' : (t.op != 2) = false := by simp [ho'.1]
  have b3 : (t.pres == 2) = false := beq_eq_false_iff_ne.2 ho'.2
  have hlen : Hid ((lvF f.toks (b + 1) (n - (b + 1))).length ≤ n) := ⟨by have := lvF_length f.toks (n - (b + 1)) (b + 1); omega⟩
  clear hF ho hz ho' he
  generalize hKe : lvF f.toks (b + 1) (n - (b + 1)) = KN at hlen ⊢
  replace hKe : Hid _ := ⟨hKe⟩
  go_enter Tryz.func7, Tryz.ntmps7
  go_wp2_with (go_at_call 10; refine cA.mono ?_; rintro _ w1 ⟨rfl, hb1⟩; obtain ⟨pc, cc, hTt⟩ := hT.out w1 (HB.out.trans (hb1.mono HB.out.size)) b t ht; have z0 := hTt.c0; have z8 := hTt.c8; have y12 := (hY.out _ hb1).c12; simp only [Nat.zero_add] at y12; clear hTt)
  clear F0 F1 F2 F3 F4 F5 F6 F7 F8 F9 F10 F11 F12 z0 z8 y12 cA
  replace hb1 : Hid _ := ⟨hb1⟩
  go_loopw [8, 5] (fun q8 q5 wr => ∃ (k : Nat) (ns : List Nat), q8 = .int .i64 k ∧ k ≤ n ∧ Hid (ns ++ lvF f.toks k (n - k) = KN) ∧ Hid (NRow wr W.heap.size q5 ns) ∧ Hid (Below W.heap.size W wr)) (fun q8 _ _ => n - (RowKit.intOf q8).toNat)
  case atStart => exact ⟨b + 1, [], by go_num, hbn, ⟨hKe.out⟩, ⟨NRow.nil _ _⟩, ⟨hb1.out⟩⟩
  case round =>
    obtain ⟨k, ns, rfl, hkn', hC, hI, hB⟩ := hrel
    have y12 := (hY.out _ hB.out).c12
    simp only [Nat.zero_add] at y12
    have hBw := HB.out.trans (hB.out.mono HB.out.size)
    obtain ⟨pc, cc, hTt⟩ := hT.out wr hBw b t ht
    have z20 := hTt.c20
    rw [hn] at z20
    have hn' : Hid _ := ⟨hn⟩
    clear hTt hn
    by_cases hlt0 : k < n
    · have hlt : (k : Int) < n := by omega
      have hkf : (k : Int) < f.toks.length := by omega
      obtain ⟨u, hu⟩ : ∃ u, f.toks[k]? = some u := ⟨f.toks[k], List.getElem?_eq_getElem (by omega)⟩
      have hC' := hC.out
      rw [show n - k = (n - (k + 1)) + 1 by omega] at hC'
      replace hBw : Hid _ := ⟨hBw⟩
      obtain ⟨pu, cu, hTu⟩ := hT.out wr hBw.out k u hu
      have t0 := hTu.c0
      have t8 := hTu.c8
      have hw2 : IntKind.i64.wrap ((k : Int) + 1) = (k : Int) + 1 := by rw [IntKind.wrap_i64]; omega
      clear hC hTu
      cases hlv : lvB u with
      | true =>
        rw [lvF_yes hu hlv] at hC'
        have hlv' : u.op = 14 ∧ ¬ u.pres = 2 := of_decide_eq_true hlv
        have c2 : (u.op == 14) = true := by simp [hlv'.1]
        have c3 : (u.pres == 2) = false := beq_eq_false_iff_ne.2 hlv'.2
        have c3' : (u.pres != 2) = true := by simp [hlv'.2]
        have hrl : ns.length + 1 ≤ 977343669134 := by
          have h1 := hlen.out
          rw [← hC', List.length_append, List.length_append] at h1
          simp only [List.length_singleton] at h1
          omega
        have hC2 : Hid ((ns ++ [k]) ++ lvF f.toks (k + 1) (n - (k + 1)) = KN) := ⟨by rw [← hC']; simp⟩
        have hap : Hid _ := ⟨n_ap k hI.out hrl hB.out.size⟩
        clear hC' hlv hlv'
        go_wp2_with ((at_builtin; go_must (refine (ap_step (by rfl) _ _ _ _ (by rfl) _ _ (by rfl) (by rfl) _ hap.out ?_)); rintro v' w' ⟨q1, q2⟩; replace q1 : Hid _ := ⟨q1⟩; replace q2 : Hid _ := ⟨q2⟩))
        go_roundw
        case rel => exact ⟨k + 1, ns ++ [k], by go_num, by omega, hC2, ⟨q1.out⟩, ⟨hB.out.trans q2.out⟩⟩
        case measure => simp [RowKit.intOf]; omega
      | false =>
        rw [lvF_no hu hlv] at hC'
        have hC2 : Hid (ns ++ lvF f.toks (k + 1) (n - (k + 1)) = KN) := ⟨hC'⟩
        have hlv' : ¬ (u.op = 14 ∧ ¬ u.pres = 2) := of_decide_eq_false hlv
        have hI2 := hI
        clear hC' hlv
        by_cases h14 : u.op = 14
        · have c2 : (u.op == 14) = true := by simp [h14]
          have c3 : (u.pres == 2) = true := by simp; omega
          have c3' : (u.pres != 2) = false := by simp; omega
          clear hlv' h14
          go_wp2_with fail
          go_roundw
          case rel => exact ⟨k + 1, ns, by go_num, by omega, hC2, hI2, hB⟩
          case measure => simp [RowKit.intOf]; omega
        · have c2 : (u.op == 14) = false := beq_eq_false_iff_ne.2 h14
          clear hlv' h14
          go_wp2_with fail
          go_roundw
          case rel => exact ⟨k + 1, ns, by go_num, by omega, hC2, hI2, hB⟩
          case measure => simp [RowKit.intOf]; omega
    · obtain rfl : k = n := by omega
      have hC' := hC.out
      rw [Nat.sub_self, lvF, List.append_nil] at hC'
      have hI2 : Hid (NRow wr w.heap.size u5 KN) := ⟨by rw [← hC']; exact hI.out.low (by have := HS.out; omega)⟩
      replace hBw : Hid _ := ⟨hBw⟩
      have hge : decide ((k : Int) < k) = false := by simp
      clear hC hC' hlt0
      go_wp2_with fail
      go_ret
      exact ⟨_, rfl, hI2.out, hBw.out⟩
end Go.Proofs.YtjjhfiddebmgcaaGreatDoor
namespace Go.Proofs.YtjjhfiddebmgcaaGreatDoor
open Go.ChangeShapes Go.WideShapes Go.ChangeAt Go.RowKit Go.Shelf Go.Maps

/-- What a rule of the document leaves. -/
def Lfd (r : Ending) (P : Prop) (c : Df) (w w' : World) (D : Prop) : Prop := ∃ b, r = .returned (.bool b) ∧ (b = true ↔ P) ∧ Kb [c.go] w w' ∧ (b = true → D)
theorem Lfd.no {P D : Prop} {c : Df} {w w' : World} (h : ¬ P) (hk : Kb [c.go] w w') : Lfd (.returned (.bool false)) P c w w' D := ⟨false, rfl, by simp [h], hk, fun e => by cases e⟩
theorem Lfd.yes {P D : Prop} {c : Df} {w w' : World} (h : P) (hk : Kb [c.go] w w') (hd : D) : Lfd (.returned (.bool true)) P c w w' D := ⟨true, rfl, by simp [h], hk, fun _ => hd⟩
theorem Kb.drewN {E : List Nat} {a b : World} (h : Kb E a b) (n : Nat) : Kb E a (b.drewN n) := ⟨h.os, h.tape, h.output, h.size, h.block⟩
end Go.Proofs.YtjjhfiddebmgcaaGreatDoor
namespace Go.Proofs.YtjjhfiddebmgcaaGreatDoor
open Go.ChangeShapes Go.WideShapes Go.ChangeAt Go.RowKit Go.Shelf Go.Maps

/-- .. where nothing is written unless it answers true. -/
def Lfg (r : Ending) (P : Prop) (c : Df) (w w' : World) (D : Prop) : Prop := ∃ b, r = .returned (.bool b) ∧ (b = true ↔ P) ∧ (b = false → Below w.heap.size w w') ∧ Kb [c.go] w w' ∧ (b = true → D)
theorem Lfg.no {P D : Prop} {c : Df} {w w' : World} (h : ¬ P) (hb : Below w.heap.size w w') : Lfg (.returned (.bool false)) P c w w' D := ⟨false, rfl, by simp [h], fun _ => hb, Kb.of_below hb, fun e => by cases e⟩
theorem Lfg.yes {P D : Prop} {c : Df} {w w' : World} (h : P) (hk : Kb [c.go] w w') (hd : D) : Lfg (.returned (.bool true)) P c w w' D := ⟨true, rfl, by simp [h], (fun e => by cases e), hk, fun _ => hd⟩
end Go.Proofs.YtjjhfiddebmgcaaGreatDoor

/- LookPaths: the law's walk. -/
import Derived.Test.YtfikmlckcbnppaaDoorLqA
namespace Go.Proofs.YtfikmlckcbnppaaDoor
open Go.ChangeShapes Go.WideShapes Go.ChangeAt Go.RowKit Go.Shelf Go.Maps

set_option maxRecDepth 20000 in
set_option maxHeartbeats 4000000 in
theorem LookPaths_any (s : ByteArray) (hs : s.size ≤ 1048576) (l : List (ByteArray × Int)) (pp : Option Addr) (cp : Nat) (w : World) (hr : SpRow w pp w.heap.size l) (hl : l.length ≤ 1048576) (hsz : ∀ x ∈ l, x.1.size ≤ 1048576) (htab : ∀ W, Below w.heap.size w W → Tab W) :
    Calls Tryd.prog 3 #[.string s, .slice pp l.length cp] w fun e w' => e = .returned (.bool true) ∧ Below w.heap.size w w' := by
  obtain ⟨L, E, A, hLl, cR, cP⟩ : ∃ L E A, L.length ≤ 1048576 ∧ Hid (∀ w, Calls Tryd.prog 4 #[.string s] w (PE w L E A)) ∧ Hid (∀ w, Calls Tryd.prog 6 #[.string s] w (PE w L E A)) :=
    ⟨_, _, _, Nat.le_trans (pzL_len s) hs, ⟨PathR s hs⟩, ⟨PathP s hs⟩⟩
  obtain ⟨T, G, tR, tP⟩ : ∃ T G, Hid (∀ W, Below w.heap.size w W → Calls Tryd.prog 5 #[.slice pp l.length cp] W fun e w' => e = .returned (.tuple #[.string T, .int .i64 G]) ∧ Below W.heap.size W w') ∧
      Hid (∀ W p c, Below w.heap.size w W → SpRow W p W.heap.size l → Calls Tryd.prog 8 #[.slice p l.length c] W fun e w' => e = .returned (.tuple #[.string T, .int .i64 G]) ∧ Below W.heap.size W w') :=
    ⟨txT l, txE l, ⟨fun W h => (Text21 l pp cp W ((hr.below h).mono h.size) hl hsz).mono fun _ _ h => h.one⟩, ⟨fun W p c h hr' => (Text_any l p c W hr' hl hsz fun W' h' => htab W' (h.trans (h'.mono h.size))).mono fun _ _ h => h.one⟩⟩
  have K : Hid (SpRow w pp w.heap.size l ∧ l.length ≤ 1048576 ∧ L.length ≤ 1048576) := ⟨hr, hl, hLl⟩
  have c1' := cR.out w
  clear hs hr hl hsz htab
  have hLi : (L.length : Int) ≤ 1048576 := by omega
  go_enter Tryd.func3, Tryd.ntmps3
  go_upto_region 9 with (first
    | (go_at_call 4; refine c1'.mono ?_; clear c1' cR; rintro _ w1 ⟨p1, c1, rfl, r1, b1⟩; have c2' := tR.out w1 b1; replace r1 : Hid _ := ⟨r1⟩; replace b1 : Hid _ := ⟨b1⟩; clear tR)
    | (go_at_call 5; refine c2'.mono ?_; clear c2'; rintro _ w2 ⟨rfl, b2⟩; have c3' := cP.out w2; replace b2 : Hid _ := ⟨b2⟩)
    | (go_at_call 6; refine c3'.mono ?_; clear c3'; rintro _ w3 ⟨p3, c3, rfl, r3, b3⟩; have c4' := cP.out w3; replace r3 : Hid _ := ⟨r3⟩; replace b3 : Hid _ := ⟨b3⟩)
    | (go_at_call 6; refine c4'.mono ?_; clear c4'; rintro _ w4 ⟨p4, c4, rfl, r4, b4⟩; have hB4 : Hid (Below w.heap.size w w4) := ⟨b1.out.trans ((b2.out.trans ((b3.out.trans (b4.mono b3.out.size)).mono b2.out.size)).mono b1.out.size)⟩; have c5' := own_any l pp cp w4 ((K.out.1.below hB4.out).mono hB4.out.size) K.out.2.1; replace r4 : Hid _ := ⟨r4⟩; replace b4 : Hid _ := ⟨b4⟩)
    | (go_at_call 7; refine c5'.mono ?_; clear c5'; rintro _ w5 ⟨g1, k1, g2, k2, g3, k3, g4, k4, rfl, o5, b5⟩; obtain ⟨W5, hW5⟩ : ∃ W, W = w5.alloc (aqO (.slice (some ⟨g1, 0, none⟩) 0 k1) (.slice (some ⟨g2, 0, none⟩) 0 k2) (.slice (some ⟨g3, 0, none⟩) l.length k3) (.slice (some ⟨g4, 0, none⟩) 0 k4)) := ⟨_, rfl⟩; have sY : Hid (∀ z : Array Value, z.size = 17 → (Instr.storeAt 40 (.pointer (some ⟨w5.heap.size, 0, none⟩)) (.agg (owV l g1 k1 g2 k2 g3 k3 g4 k4))).run Tryd.prog (w5.alloc (.cells z 40)) = .ok () W5) := ⟨fun z hz => hW5 ▸ aq_new w5 z hz ⟨rfl, rfl, rfl, rfl⟩⟩; have q5 : Hid _ := ⟨Lk.mk' r1.out b1.out b2.out r3.out b3.out r4.out b4.out o5 b5 hW5⟩; have y15 : W5.cell? ⟨w5.heap.size, 15, none⟩ = some (.slice (some ⟨g3, 0, none⟩) l.length k3) := cell_at q5.out.yb 15; have c6' := tP.out W5 (some ⟨g3, 0, none⟩) k3 q5.out.b q5.out.oA.sp; generalize w2.heap.size = B2 at *; generalize w3.heap.size = B3 at *; generalize w4.heap.size = B4 at *; clear o5 b5 hW5 r1 b1 b2 r3 b3 r4 b4 hB4 tP)
    | (guard_target =~ wpList _ _ _ (Oper.mk _ (Op.store 40 _ _) _ _ _ _ :: _) _ _; go_must (refine wpList_st 40 _ _ rfl rfl _ _ rfl rfl (sY.out _ rfl) ?_); simp only [pts]; clear sY)
    | (go_at_call 8; refine c6'.mono ?_; clear c6'; rintro _ w6 ⟨rfl, b6⟩; have q6 : Hid _ := ⟨q5.out.below b6⟩; have c7' := q6.out.s31 K.out.2.2; clear b6 q5 y15)
    | (go_at_call 9; refine (num_any _ _).mono ?_; rintro _ _ ⟨rfl, rfl⟩)
    | (go_at_call 10; refine c7'.mono ?_; clear c7'; rintro _ w7 ⟨rfl, q7⟩; have c8' := q7.out.s41 K.out.2.2; clear q6)
    | (go_at_call 10; refine c8'.mono ?_; clear c8'; rintro _ w8 ⟨rfl, q8⟩; have l8 := q8.out.ld; have c9' := q8.out.kept pp cp K.out.1 K.out.2.1; clear q7)
    | (guard_target =~ wpList _ _ _ (Oper.mk _ (Op.load 40 _) _ _ _ _ :: _) _ _; go_must (refine wpList_ld 40 _ rfl rfl _ _ rfl l8 ?_); simp only [pts])
    | (go_at_call 11; refine c9'.mono ?_; clear c9'; rintro _ w9 ⟨rfl, q9⟩; clear q8 l8))
  clear K
  go_wp2_with fail
  go_loopw [19] (fun q wr => ∃ j : Nat, j ≤ L.length ∧ q = .int .i64 (j : Int) ∧ Hid (Ov w9 B2 L.length p3 c3 wr)) (fun q _ => L.length - (RowKit.intOf q).toNat)
  case atStart => exact ⟨0, Nat.zero_le _, by go_num, ⟨Ov.start q9.out.r3⟩⟩
  case round =>
    obtain ⟨j, hj, rfl, hO⟩ := hrel
    by_cases hlt : j < L.length
    · obtain ⟨g, rfl, W', hst, hO'⟩ := hO.out.put hlt
      have hji : (j : Int) < L.length := by omega
      have hjb : (j : Int) ≤ 1048576 := by omega
      replace hO' : Hid _ := ⟨hO'⟩
      clear hO
      go_wp2_with (guard_target =~ wpList _ _ _ (Oper.mk _ (Op.store 46 _ _) _ _ _ _ :: _) _ _; go_must (refine wpList_st 46 _ _ rfl rfl _ _ rfl rfl hst ?_); simp only [pts])
      go_roundw
      case rel => exact ⟨j + 1, by omega, by go_num, hO'⟩
      case measure => simp [RowKit.intOf]; omega
    · obtain rfl : j = L.length := by omega
      have d3 : decide ((L.length : Int) < L.length) = false := by simp
      have cL := cP.out wr
      have hF : Hid _ := ⟨Ov.fin q9.out hO.out⟩
      clear cP q9 hO
      go_wp2_with (first
        | (go_at_call 6; refine cL.mono ?_; clear cL; rintro _ wl ⟨p5, c5, rfl, r5, b5⟩; have hS : Hid _ := ⟨(⟨hF.out.2.1.below b5, hF.out.2.2.below b5, r5⟩ : StR wl w.heap.size (.slice p1 L.length c1) L ∧ StR wl B3 (.slice p4 L.length c4) L ∧ StR wl wr.heap.size (.slice p5 L.length c5) L)⟩; have hbl : Hid (Below w.heap.size w wl) := ⟨hF.out.1.trans (b5.mono hF.out.1.size)⟩; have cM := sameSteps_any L p4 p1 c4 c1 wl hS.out.2.1.sp hS.out.1.sp hLl; clear r5 b5 hF)
        | (go_at_call 10; refine cM.mono ?_; clear cM; rintro _ wm ⟨rfl, bm⟩; have cN := sameSteps_any L p5 p1 c5 c1 wm (hS.out.2.2.below bm).sp (hS.out.1.below bm).sp hLl; have hbm : Hid (Below w.heap.size w wm) := ⟨hbl.out.trans (bm.mono hbl.out.size)⟩; clear bm hS hbl)
        | (go_at_call 10; refine cN.mono ?_; clear cN; rintro _ wn ⟨rfl, bn⟩; have hbn : Hid (Below w.heap.size w wn) := ⟨hbm.out.trans (bn.mono hbm.out.size)⟩; clear bn hbm))
      go_ret
      exact ⟨rfl, hbn.out⟩
end Go.Proofs.YtfikmlckcbnppaaDoor

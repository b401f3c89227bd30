/- The program's Text, walked. -/
import Derived.Test.YtfikmlckcbnppaaDoorLpL
namespace Go.Proofs.YtfikmlckcbnppaaDoor
open Go.ChangeShapes Go.WideShapes Go.ChangeAt Go.RowKit Go.Shelf Go.Maps

theorem res_tO (tmps : Array Value) (t : ByteArray) (n : Int) (h2 : tmps[2]?.getD undef = .string t) (h3 : tmps[3]?.getD undef = .int .i64 n) (W : World) :
    (results Tryd.f19 tmps).run Tryd.prog W = .ok (.tuple #[.string t, .int .i64 n]) W := by
  simp [results, Tryd.results19, go_sem, h2, h3]
theorem itoa_nat (m : Nat) : Lib.itoa (m : Int) = Lib.decDigits m := by
  unfold Lib.itoa
  rw [if_neg (by omega)]
  rfl
abbrev Tab (W : World) : Prop := Lib.TabIs Tryd.prog W "internal/strconv.uint64pow10" .u64 Lib.pow10Tab
abbrev bdO : Obj := .cells #[.pointer none, .slice none 0 0] 68
set_option maxRecDepth 20000 in
set_option maxHeartbeats 4000000 in
theorem textOf_any (l : List (ByteArray × Int)) (pp : Option Addr) (cp : Nat) (w : World) (hr : SpRow w pp w.heap.size l) (hl : l.length ≤ 1048576) (hsz : ∀ x ∈ l, x.1.size ≤ 1048576) (htab : ∀ W, Below w.heap.size w W → Tab W) : Calls Tryd.prog 19 #[.slice pp l.length cp] w fun e w' => TE w l e w' := by
  have H0 : Hid (IsB w.heap.size w.heap.size (Lib.strCells (txN l 0)) (w.alloc bdO) ∧ Below w.heap.size w (w.alloc bdO) ∧ ∀ j x, j < 0 → l[j]? = some x → okT x = true) := ⟨.inl ⟨Nat.le_refl _, _, heap_al _ _, World.ownsRow_nil _ _ _ 1, by simp [Value.ownBlock]⟩, bel1 _ _, fun j x hj => absurd hj (Nat.not_lt_zero _)⟩
  have hz0 : (w.alloc bdO).heap.size = w.heap.size + 1 := World.size_alloc _ _
  generalize hW0 : w.alloc bdO = W0 at H0 hz0
  simp only [bdO] at hW0
  have HS : Hid (w.heap.size < W0.heap.size) := ⟨by omega⟩
  replace hr : Hid _ := ⟨hr⟩
  replace hsz : Hid _ := ⟨hsz⟩
  replace htab : Hid _ := ⟨htab⟩
  clear hz0
  go_enter Tryd.func19, Tryd.ntmps19
  go_wp2_with fail
  go_loopw [9] (fun q wr => ∃ j : Nat, j ≤ l.length ∧ q = .int .i64 (j : Int) ∧ Hid ((IsB w.heap.size w.heap.size (Lib.strCells (txN l j)) wr ∧ w.heap.size < wr.heap.size) ∧ Below w.heap.size w wr ∧ ∀ i x, i < j → l[i]? = some x → okT x = true)) (fun q _ => l.length - (RowKit.intOf q).toNat)
  case atStart => exact ⟨0, Nat.zero_le _, by go_num, ⟨⟨H0.out.1, HS.out⟩, H0.out.2⟩⟩
  case round =>
    clear H0 HS hW0
    obtain ⟨j, hj, rfl, hI⟩ := hrel
    by_cases hlt : j < l.length
    · obtain ⟨x, hx⟩ : ∃ x, l[j]? = some x := ⟨l[j], List.getElem?_eq_getElem hlt⟩
      obtain ⟨g, o, rfl, hg, -, -⟩ := hr.out.c j x hx
      have l46 : Hid ((Instr.loadAt 46 (.pointer (some ⟨g, o + j * 2, none⟩))).run Tryd.prog wr = .ok (spV x) wr) := ⟨by
        obtain ⟨g', o', e, -, h1, h2⟩ := (hr.out.below hI.out.2.1).c j x hx
        cases e
        obtain ⟨d, hu, hd⟩ := undSp
        refine run_loadAt_mid wr g (o + j * 2) 46 (spC x).toList d (fun i v hi => ?_) hu hd infoSp
        have h2i : i < 2 := (List.getElem?_eq_some_iff.1 hi).1
        have : i = 0 ∨ i = 1 := by omega
        rcases this with rfl | rfl
        · cases hi; exact h1
        · cases hi; exact h2⟩
      have s3 : Hid _ := ⟨fun z hz => sp_new wr z hz x⟩
      have hT : Hid (Tx w (txN l j) wr.heap.size x (wr.alloc (spO x))) := ⟨hI.out.1.1.below (bel1 _ _), hI.out.2.1.trans ((bel1 _ _).mono hI.out.2.1.size), heap_al _ _, hI.out.1.2⟩
      have b0 : (wr.alloc (spO x)).cell? ⟨wr.heap.size, 0, none⟩ = some (.string x.1) := cell_at hT.out.xb 0
      have b1 : (wr.alloc (spO x)).cell? ⟨wr.heap.size, 1, none⟩ = some (.int .i64 x.2) := cell_at hT.out.xb 1
      obtain ⟨X, hX⟩ : ∃ X, wr.heap.size = X := ⟨_, rfl⟩
      rw [hX] at s3 hT b0 b1
      generalize hWX : wr.alloc (spO x) = WX at s3 hT b0 b1
      have cS := Symbol_any x.1 (by have := hsz.out x (List.mem_of_getElem? hx); omega) WX
      have hji : (j : Int) < l.length := by omega
      have hjb : (j : Int) ≤ 1048576 := by omega
      simp only [spO, spC] at hWX
      cases hok : okT x with
      | false =>
        have hF : Hid (TE w l (.returned (.tuple #[.string ⟨#[]⟩, .int .i64 210])) WX) := ⟨hT.out.bl, .inr ⟨textZ_none hx hok, rfl⟩⟩
        have hcase : symbolB x.1 = false ∨ (symbolB x.1 = true ∧ decide (x.2 < -1) = true) ∨ (symbolB x.1 = true ∧ decide (x.2 < -1) = false ∧ decide ((65535 : Int) < x.2) = true) := by
          unfold okT at hok
          cases hs : symbolB x.1 with
          | false => exact .inl rfl
          | true =>
            rw [hs, Bool.true_and] at hok
            by_cases h1 : x.2 < -1
            · exact .inr (.inl ⟨rfl, decide_eq_true h1⟩)
            · refine .inr (.inr ⟨rfl, decide_eq_false h1, decide_eq_true ?_⟩)
              rw [decide_eq_true (show -1 ≤ x.2 by omega), Bool.true_and] at hok
              have := of_decide_eq_false hok
              omega
        clear hI hok hT
        rcases hcase with hs | ⟨hs, d1⟩ | ⟨hs, d1, d2⟩
        all_goals
          rw [hs] at cS
          go_wp2_with (first
            | (go_at_call 25; refine cS.mono ?_; rintro _ w1 ⟨rfl, rfl⟩)
            | (guard_target =~ wpList _ _ _ (Oper.mk _ (Op.load 46 _) _ _ _ _ :: _) _ _; go_must (refine wpList_ld 46 _ rfl rfl _ _ rfl l46.out ?_); simp only [pts])
            | (guard_target =~ wpList _ _ _ (Oper.mk _ (Op.store 46 _ _) _ _ _ _ :: _) _ _; go_must (refine wpList_st 46 _ _ rfl rfl _ _ rfl rfl (s3.out _ rfl) ?_); simp only [pts]))
          exact bodyPost_ret (res_tO _ _ _ rfl rfl _) rfl hF.out
      | true =>
        obtain ⟨hsy, hm1, h65, h64⟩ := okT_of hok
        rw [hsy] at cS
        have hs0 := txN_size (l := l) (i := j) fun i y hi => hI.out.2.2 i y hi
        have hsB : (txN l j).size ≤ 90000000000 := by omega
        have d1 : decide (x.2 < -1) = false := decide_eq_false (by omega)
        have d2 : decide ((65535 : Int) < x.2) = false := decide_eq_false (by omega)
        have hall : Hid (∀ i y, i < j + 1 → l[i]? = some y → okT y = true) := ⟨fun i y hi hy => by
          by_cases e : i = j
          · subst e
            rw [hx] at hy
            cases hy
            exact hok
          · exact hI.out.2.2 i y (by omega) hy⟩
        have hsu := txN_succ hx
        replace hsu : Hid _ := ⟨hsu⟩
        have hfin : Hid (∀ W, Tx w (txN l (j + 1)) X x W → (IsB w.heap.size w.heap.size (Lib.strCells (txN l (j + 1))) W ∧ w.heap.size < W.heap.size) ∧ Below w.heap.size w W ∧ ∀ i y, i < j + 1 → l[i]? = some y → okT y = true) := ⟨fun W h => ⟨⟨h.ib, by have := (Array.getElem?_eq_some_iff.1 h.xb).1; have := h.lt; omega⟩, h.bl, hall.out⟩⟩
        clear hall
        obtain ⟨nm, n⟩ := x
        simp only [] at *
        generalize txN l j = s0 at *
        have hz : ∀ a b : ByteArray, (a ++ b).size = a.size + b.size := fun a b => ByteArray.size_append ..
        have z1 : (⟨#[46]⟩ : ByteArray).size = 1 := rfl
        have z2 : (⟨#[91]⟩ : ByteArray).size = 1 := rfl
        have z3 : (⟨#[93]⟩ : ByteArray).size = 1 := rfl
        by_cases hn0 : 0 ≤ n
        · obtain ⟨m, hm⟩ : ∃ m : Nat, n = m := ⟨n.toNat, by omega⟩
          have d4 : decide ((0 : Int) ≤ n) = true := decide_eq_true hn0
          have hdm := decB_size m
          have hse : seT (nm, n) = ((⟨#[91]⟩ : ByteArray) ++ decB m) ++ (⟨#[93]⟩ : ByteArray) := by
            unfold seT
            rw [if_pos hn0, hm]
            rfl
          have CI : Hid (∀ t W, t.size ≤ 90000000100 → Tx w t X (nm, n) W → Calls Tryd.prog 28 #[.int .i64 n] W fun e w4 => e = .returned (.string (decB m)) ∧ Calls Tryd.prog 27 #[.pointer (some ⟨w.heap.size, 0, none⟩), .string ((⟨#[91]⟩ : ByteArray) ++ decB m ++ (⟨#[93]⟩ : ByteArray))] w4 fun e w5 => e = .returned (.tuple #[.int .i64 ((((⟨#[91]⟩ : ByteArray) ++ decB m ++ (⟨#[93]⟩ : ByteArray)).size : Nat) : Int), .nilIface]) ∧ Hid (Tx w (t ++ ((⟨#[91]⟩ : ByteArray) ++ decB m ++ (⟨#[93]⟩ : ByteArray))) X (nm, n) w5)) := ⟨fun t W ht hT => by
            rw [hm]
            refine (Itoa_any m (by omega) W (htab.out W hT.bl)).mono fun e w4 ⟨h1, h2⟩ => ⟨by rw [h1, itoa_nat]; rfl, ?_⟩
            rw [hm] at hT
            exact ((hT.below h2).str _ (by rw [hz, hz, z2, z3]; omega)).mono fun e w5 ⟨h3, h4⟩ => ⟨h3, ⟨h4⟩⟩⟩
          have hm6 : m ≤ 65535 := by omega
          clear hm
          generalize decB m = dd at *
          have p1 : ¬ 9223372036854775807 < 1 + dd.size := by omega
          have p2 : ¬ 9223372036854775807 < 1 + dd.size + 1 := by omega
          by_cases hj0 : j = 0
          · have dj : decide ((0 : Int) < (j : Int)) = false := decide_eq_false (by omega)
            have djn : decide (0 < j) = false := decide_eq_false (by omega)
            have hR : Hid (txN l (j + 1) = (s0 ++ nm) ++ ((⟨#[91]⟩ : ByteArray) ++ dd ++ (⟨#[93]⟩ : ByteArray))) := ⟨by rw [hsu.out, if_pos hj0, hse]⟩
            have cW : Calls Tryd.prog 27 #[.pointer (some ⟨w.heap.size, 0, none⟩), .string nm] WX fun e w3 => e = .returned (.tuple #[.int .i64 (nm.size : Int), .nilIface]) ∧ w3.cell? ⟨X, 1, none⟩ = some (.int .i64 n) ∧ Hid (Tx w (s0 ++ nm) X (nm, n) w3) := (hT.out.str nm (by omega)).mono fun e w3 ⟨h1, h2⟩ => ⟨h1, cell_at h2.xb 1, ⟨h2⟩⟩
            have hq : Hid ((s0 ++ nm).size ≤ 90000000100) := ⟨by rw [hz]; omega⟩
            clear hj0 hI hok hsu hT hz z1 z2 z3 hse hn0 hdm
            go_wp2_with (first
              | (go_at_call 25; refine cS.mono ?_; rintro _ w1 ⟨rfl, rfl⟩)
              | (go_at_call 27; refine cW.mono ?_; rintro _ w3 ⟨rfl, e1, HN⟩; have cI := CI.out _ w3 hq.out HN.out; clear cW)
              | (go_at_call 28; refine cI.mono ?_; rintro _ w4 ⟨rfl, cV⟩)
              | (go_at_call 27; refine cV.mono ?_; rintro _ w5 ⟨rfl, HM⟩)
              | (guard_target =~ wpList _ _ _ (Oper.mk _ (Op.load 46 _) _ _ _ _ :: _) _ _; go_must (refine wpList_ld 46 _ rfl rfl _ _ rfl l46.out ?_); simp only [pts])
              | (guard_target =~ wpList _ _ _ (Oper.mk _ (Op.store 46 _ _) _ _ _ _ :: _) _ _; go_must (refine wpList_st 46 _ _ rfl rfl _ _ rfl rfl (s3.out _ rfl) ?_); simp only [pts]))
            go_roundw
            case rel => exact ⟨j + 1, by omega, by go_num, ⟨hfin.out _ (by rw [hR.out]; exact HM.out)⟩⟩
            case measure => simp [RowKit.intOf]; omega
          · have dj : decide ((0 : Int) < (j : Int)) = true := decide_eq_true (by omega)
            have djn : decide (0 < j) = true := decide_eq_true (by omega)
            have hR : Hid (txN l (j + 1) = (s0 ++ (⟨#[46]⟩ : ByteArray) ++ nm) ++ ((⟨#[91]⟩ : ByteArray) ++ dd ++ (⟨#[93]⟩ : ByteArray))) := ⟨by rw [hsu.out, if_neg hj0, hse]⟩
            have cB : Calls Tryd.prog 26 #[.pointer (some ⟨w.heap.size, 0, none⟩), .int .u8 46] WX fun e w2 => e = .returned .nilIface ∧ w2.cell? ⟨X, 0, none⟩ = some (.string nm) ∧ Calls Tryd.prog 27 #[.pointer (some ⟨w.heap.size, 0, none⟩), .string nm] w2 fun e w3 => e = .returned (.tuple #[.int .i64 (nm.size : Int), .nilIface]) ∧ w3.cell? ⟨X, 1, none⟩ = some (.int .i64 n) ∧ Hid (Tx w (s0 ++ (⟨#[46]⟩ : ByteArray) ++ nm) X (nm, n) w3) := (hT.out.dot (by omega)).mono fun e w2 ⟨h1, h2⟩ => ⟨h1, cell_at h2.xb 0, (h2.str nm (by rw [hz, z1]; omega)).mono fun e w3 ⟨h3, h4⟩ => ⟨h3, cell_at h4.xb 1, ⟨h4⟩⟩⟩
            have hq : Hid ((s0 ++ (⟨#[46]⟩ : ByteArray) ++ nm).size ≤ 90000000100) := ⟨by rw [hz, hz, z1]; omega⟩
            clear hj0 hI hok hsu hT hz z1 z2 z3 hse hn0 hdm
            go_wp2_with (first
              | (go_at_call 25; refine cS.mono ?_; rintro _ w1 ⟨rfl, rfl⟩)
              | (go_at_call 26; refine cB.mono ?_; rintro _ w2 ⟨rfl, a0, cW⟩)
              | (go_at_call 27; refine cW.mono ?_; rintro _ w3 ⟨rfl, e1, HN⟩; have cI := CI.out _ w3 hq.out HN.out; clear cW)
              | (go_at_call 28; refine cI.mono ?_; rintro _ w4 ⟨rfl, cV⟩)
              | (go_at_call 27; refine cV.mono ?_; rintro _ w5 ⟨rfl, HM⟩)
              | (guard_target =~ wpList _ _ _ (Oper.mk _ (Op.load 46 _) _ _ _ _ :: _) _ _; go_must (refine wpList_ld 46 _ rfl rfl _ _ rfl l46.out ?_); simp only [pts])
              | (guard_target =~ wpList _ _ _ (Oper.mk _ (Op.store 46 _ _) _ _ _ _ :: _) _ _; go_must (refine wpList_st 46 _ _ rfl rfl _ _ rfl rfl (s3.out _ rfl) ?_); simp only [pts]))
            go_roundw
            case rel => exact ⟨j + 1, by omega, by go_num, ⟨hfin.out _ (by rw [hR.out]; exact HM.out)⟩⟩
            case measure => simp [RowKit.intOf]; omega
        · have d4 : decide ((0 : Int) ≤ n) = false := decide_eq_false hn0
          by_cases hj0 : j = 0
          · have dj : decide ((0 : Int) < (j : Int)) = false := decide_eq_false (by omega)
            have djn : decide (0 < j) = false := decide_eq_false (by omega)
            have hR : Hid (txN l (j + 1) = s0 ++ nm) := ⟨by rw [hsu.out, if_pos hj0]; unfold seT; rw [if_neg hn0, ba_nil]⟩
            have cW : Calls Tryd.prog 27 #[.pointer (some ⟨w.heap.size, 0, none⟩), .string nm] WX fun e w3 => e = .returned (.tuple #[.int .i64 (nm.size : Int), .nilIface]) ∧ w3.cell? ⟨X, 1, none⟩ = some (.int .i64 n) ∧ Hid (Tx w (s0 ++ nm) X (nm, n) w3) := (hT.out.str nm (by omega)).mono fun e w3 ⟨h1, h2⟩ => ⟨h1, cell_at h2.xb 1, ⟨h2⟩⟩
            clear hj0 hI hok hsu hT hz z1 z2 z3
            go_wp2_with (first
              | (go_at_call 25; refine cS.mono ?_; rintro _ w1 ⟨rfl, rfl⟩)
              | (go_at_call 27; refine cW.mono ?_; rintro _ w3 ⟨rfl, e1, HN⟩)
              | (guard_target =~ wpList _ _ _ (Oper.mk _ (Op.load 46 _) _ _ _ _ :: _) _ _; go_must (refine wpList_ld 46 _ rfl rfl _ _ rfl l46.out ?_); simp only [pts])
              | (guard_target =~ wpList _ _ _ (Oper.mk _ (Op.store 46 _ _) _ _ _ _ :: _) _ _; go_must (refine wpList_st 46 _ _ rfl rfl _ _ rfl rfl (s3.out _ rfl) ?_); simp only [pts]))
            go_roundw
            case rel => exact ⟨j + 1, by omega, by go_num, ⟨hfin.out _ (by rw [hR.out]; exact HN.out)⟩⟩
            case measure => simp [RowKit.intOf]; omega
          · have dj : decide ((0 : Int) < (j : Int)) = true := decide_eq_true (by omega)
            have djn : decide (0 < j) = true := decide_eq_true (by omega)
            have hR : Hid (txN l (j + 1) = (s0 ++ (⟨#[46]⟩ : ByteArray)) ++ nm) := ⟨by rw [hsu.out, if_neg hj0]; unfold seT; rw [if_neg hn0, ba_nil]⟩
            have cB : Calls Tryd.prog 26 #[.pointer (some ⟨w.heap.size, 0, none⟩), .int .u8 46] WX fun e w2 => e = .returned .nilIface ∧ w2.cell? ⟨X, 0, none⟩ = some (.string nm) ∧ Calls Tryd.prog 27 #[.pointer (some ⟨w.heap.size, 0, none⟩), .string nm] w2 fun e w3 => e = .returned (.tuple #[.int .i64 (nm.size : Int), .nilIface]) ∧ w3.cell? ⟨X, 1, none⟩ = some (.int .i64 n) ∧ Hid (Tx w (s0 ++ (⟨#[46]⟩ : ByteArray) ++ nm) X (nm, n) w3) := (hT.out.dot (by omega)).mono fun e w2 ⟨h1, h2⟩ => ⟨h1, cell_at h2.xb 0, (h2.str nm (by rw [hz, z1]; omega)).mono fun e w3 ⟨h3, h4⟩ => ⟨h3, cell_at h4.xb 1, ⟨h4⟩⟩⟩
            clear hj0 hI hok hsu hT hz z1 z2 z3
            go_wp2_with (first
              | (go_at_call 25; refine cS.mono ?_; rintro _ w1 ⟨rfl, rfl⟩)
              | (go_at_call 26; refine cB.mono ?_; rintro _ w2 ⟨rfl, a0, cW⟩)
              | (go_at_call 27; refine cW.mono ?_; rintro _ w3 ⟨rfl, e1, HN⟩)
              | (guard_target =~ wpList _ _ _ (Oper.mk _ (Op.load 46 _) _ _ _ _ :: _) _ _; go_must (refine wpList_ld 46 _ rfl rfl _ _ rfl l46.out ?_); simp only [pts])
              | (guard_target =~ wpList _ _ _ (Oper.mk _ (Op.store 46 _ _) _ _ _ _ :: _) _ _; go_must (refine wpList_st 46 _ _ rfl rfl _ _ rfl rfl (s3.out _ rfl) ?_); simp only [pts]))
            go_roundw
            case rel => exact ⟨j + 1, by omega, by go_num, ⟨hfin.out _ (by rw [hR.out]; exact HN.out)⟩⟩
            case measure => simp [RowKit.intOf]; omega
    · obtain rfl : j = l.length := by omega
      have d3 : decide ((l.length : Int) < l.length) = false := by simp
      have cB : Calls Tryd.prog 29 #[.pointer (some ⟨w.heap.size, 0, none⟩)] wr fun e w' => e = .returned (.string (txN l l.length)) ∧ Hid (TE w l (.returned (.tuple #[.string (txN l l.length), .int .i64 0])) w') := (bString w.heap.size w.heap.size (txN l l.length).data.toList wr hI.out.1.1 (Nat.le_of_lt hI.out.1.2)).mono fun e w' ⟨h1, h2⟩ => ⟨h1, ⟨⟨hI.out.2.1.trans h2, .inl ⟨_, textZ_some hI.out.2.2, rfl⟩⟩⟩⟩
      clear hI hlt
      go_wp2_with (go_at_call 29; refine cB.mono ?_; rintro _ w2 ⟨rfl, hF⟩)
      exact bodyPost_ret (res_tO _ _ _ rfl rfl _) rfl hF.out
end Go.Proofs.YtfikmlckcbnppaaDoor

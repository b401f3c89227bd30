/- The document's Text. -/
import Derived.Test.YtfikmlckcbnppaaDoorLpJ
namespace Go.Proofs.YtfikmlckcbnppaaDoor
open Go.ChangeShapes Go.WideShapes Go.ChangeAt Go.RowKit Go.Shelf Go.Maps

/-- What Text leaves. -/
def TE (w : World) (l : List (ByteArray × Int)) (e : Ending) (w' : World) : Prop := Below w.heap.size w w' ∧ ((∃ t, textZ l = some t ∧ e = .returned (.tuple #[.string t, .int .i64 0])) ∨ (textZ l = none ∧ e = .returned (.tuple #[.string ⟨#[]⟩, .int .i64 210])))
theorem res_T21 (tmps : Array Value) (t : ByteArray) (n : Int) (h2 : tmps[2]?.getD undef = .string t) (h3 : tmps[3]?.getD undef = .int .i64 n) (W : World) :
    (results Tryd.f5 tmps).run Tryd.prog W = .ok (.tuple #[.string t, .int .i64 n]) W := by
  simp [results, Tryd.results5, go_sem, h2, h3]
theorem textZ_none {l : List (ByteArray × Int)} {i : Nat} {x : ByteArray × Int} (hx : l[i]? = some x) (h : okT x = false) : textZ l = none := by
  unfold textZ
  rw [if_neg]
  intro ha
  have := List.all_eq_true.1 ha x (List.mem_of_getElem? hx)
  rw [h] at this
  cases this
theorem textZ_some {l : List (ByteArray × Int)} (h : ∀ j x, j < l.length → l[j]? = some x → okT x = true) : textZ l = some (txN l l.length) := by
  unfold textZ
  rw [if_pos]
  refine List.all_eq_true.2 fun x hx => ?_
  obtain ⟨j, hj⟩ := List.mem_iff_getElem?.1 hx
  exact h j x (List.getElem?_eq_some_iff.1 hj).1 hj
set_option maxRecDepth 20000 in
set_option maxHeartbeats 4000000 in
theorem Text21 (l : List (ByteArray × Int)) (pp : Option Addr) (cp : Nat) (w : World) (hr : SpRow w pp w.heap.size l) (hl : l.length ≤ 1048576) (hsz : ∀ x ∈ l, x.1.size ≤ 1048576) : Calls Tryd.prog 5 #[.slice pp l.length cp] w fun e w' => TE w l e w' := by
  have H0 : Hid (Below w.heap.size w w ∧ ∀ j x, j < 0 → l[j]? = some x → okT x = true) := ⟨Below.refl _ _, fun j x hj => absurd hj (Nat.not_lt_zero _)⟩
  replace hr : Hid _ := ⟨hr⟩
  replace hsz : Hid _ := ⟨hsz⟩
  go_enter Tryd.func5, Tryd.ntmps5
  go_wp2_with fail
  go_loopw [4, 5] (fun v q wr => ∃ j : Nat, j ≤ l.length ∧ v = .string (txN l j) ∧ q = .int .i64 (j : Int) ∧ Hid (Below w.heap.size w wr ∧ ∀ i x, i < j → l[i]? = some x → okT x = true)) (fun _ q _ => l.length - (RowKit.intOf q).toNat)
  case atStart => exact ⟨0, Nat.zero_le _, rfl, by go_num, H0⟩
  case round =>
    clear H0
    obtain ⟨j, hj, rfl, rfl, hI⟩ := hrel
    by_cases hlt : j < l.length
    · obtain ⟨x, hx⟩ : ∃ x, l[j]? = some x := ⟨l[j], List.getElem?_eq_getElem hlt⟩
      obtain ⟨g, o, rfl, hg, -, -⟩ := hr.out.c j x hx
      have hC : Hid (∀ W, Below w.heap.size w W → W.cell? ⟨g, o + j * 2, none⟩ = some (.string x.1) ∧ W.cell? ⟨g, o + j * 2 + 1, none⟩ = some (.int .i64 x.2)) := ⟨fun W hW => by
        obtain ⟨g', o', e, -, h1, h2⟩ := (hr.out.below hW).c j x hx
        cases e
        exact ⟨h1, h2⟩⟩
      obtain ⟨c1, c2⟩ := hC.out wr hI.out.1
      have hji : (j : Int) < l.length := by omega
      have hjb : (j : Int) ≤ 1048576 := by omega
      have cS : Calls Tryd.prog 14 #[.string x.1] wr fun e w' => e = .returned (.bool (symbolB x.1)) ∧ w'.cell? ⟨g, o + j * 2, none⟩ = some (.string x.1) ∧ w'.cell? ⟨g, o + j * 2 + 1, none⟩ = some (.int .i64 x.2) ∧ Hid (Below w.heap.size w w') := (rSymbol x.1 (by have := hsz.out x (List.mem_of_getElem? hx); omega) wr).mono fun e w' ⟨h1, h2⟩ => by
        have hb := hI.out.1.trans (h2.mono hI.out.1.size)
        exact ⟨h1, (hC.out w' hb).1, (hC.out w' hb).2, ⟨hb⟩⟩
      cases hok : okT x with
      | false =>
        have hF : Hid (textZ l = none) := ⟨textZ_none hx hok⟩
        have hcase : symbolB x.1 = false ∨ (symbolB x.1 = true ∧ decide (x.2 < -1) = true) ∨ (symbolB x.1 = true ∧ decide (x.2 < -1) = false ∧ decide ((65535 : Int) < x.2) = true) := by
          unfold okT at hok
          cases hs : symbolB x.1 with
          | false => exact .inl rfl
          | true =>
            rw [hs, Bool.true_and] at hok
            by_cases h1 : x.2 < -1
            · exact .inr (.inl ⟨rfl, decide_eq_true h1⟩)
            · refine .inr (.inr ⟨rfl, decide_eq_false h1, decide_eq_true ?_⟩)
              rw [decide_eq_true (show -1 ≤ x.2 by omega), Bool.true_and] at hok
              have := of_decide_eq_false hok
              omega
        clear hI hok
        generalize x.2 = n at *
        rcases hcase with hs | ⟨hs, d1⟩ | ⟨hs, d1, d2⟩
        all_goals
          rw [hs] at cS
          go_wp2_with (go_at_call 14; refine cS.mono ?_; rintro _ w1 ⟨rfl, k1, k2, hB⟩)
          exact bodyPost_ret (res_T21 _ _ _ rfl rfl _) rfl ⟨hB.out, .inr ⟨hF.out, rfl⟩⟩
      | true =>
        obtain ⟨hsy, hm1, h65, h64⟩ := okT_of hok
        rw [hsy] at cS
        have hs0 := txN_size (l := l) (i := j) fun i y hi => hI.out.2 i y hi
        have hsB : (txN l j).size ≤ 100000000000 := by omega
        have d1 : decide (x.2 < -1) = false := decide_eq_false (by omega)
        have d2 : decide ((65535 : Int) < x.2) = false := decide_eq_false (by omega)
        have hall : Hid (∀ i y, i < j + 1 → l[i]? = some y → okT y = true) := ⟨fun i y hi hy => by
          by_cases e : i = j
          · subst e
            rw [hx] at hy
            cases hy
            exact hok
          · exact hI.out.2 i y (by omega) hy⟩
        have hsu := txN_succ hx
        replace hsu : Hid _ := ⟨hsu⟩
        obtain ⟨nm, n⟩ := x
        simp only [] at *
        generalize txN l j = s0 at *
        have o1 : ¬ 9223372036854775807 < s0.size + 1 := by omega
        have o2 : ¬ 9223372036854775807 < s0.size + nm.size := by omega
        have o3 : ¬ 9223372036854775807 < (s0 ++ (⟨#[46]⟩ : ByteArray)).size + nm.size := by rw [ByteArray.size_append]; show ¬ _ < s0.size + 1 + nm.size; omega
        by_cases hn0 : 0 ≤ n
        · obtain ⟨m, hm⟩ : ∃ m : Nat, n = m := ⟨n.toNat, by omega⟩
          have d4 : decide ((0 : Int) ≤ n) = true := decide_eq_true hn0
          have hdm := decB_size m
          have hse : seT (nm, n) = ((⟨#[91]⟩ : ByteArray) ++ decB m) ++ (⟨#[93]⟩ : ByteArray) := by
            unfold seT
            rw [if_pos hn0, hm]
            rfl
          have cD : Hid (∀ W, Below w.heap.size w W → Calls Tryd.prog 15 #[.int .i64 n] W fun e w' => e = .returned (.string (decB m)) ∧ Hid (Below w.heap.size w w')) := ⟨fun W hW => by
            rw [hm]
            exact (decimal21 m (by omega) W).mono fun e w' ⟨h1, h2⟩ => ⟨h1, ⟨hW.trans (h2.mono hW.size)⟩⟩⟩
          have hm6 : m ≤ 65535 := by omega
          clear hm
          generalize decB m = dd at *
          have p1 : ¬ 9223372036854775807 < s0.size + nm.size + 1 := by omega
          have p2 : ¬ 9223372036854775807 < s0.size + nm.size + 1 + dd.size := by omega
          have p3 : ¬ 9223372036854775807 < s0.size + nm.size + 1 + dd.size + 1 := by omega
          have p4 : ¬ 9223372036854775807 < s0.size + 1 + nm.size := by omega
          have p5 : ¬ 9223372036854775807 < s0.size + 1 + nm.size + 1 := by omega
          have p6 : ¬ 9223372036854775807 < s0.size + 1 + nm.size + 1 + dd.size := by omega
          have p7 : ¬ 9223372036854775807 < s0.size + 1 + nm.size + 1 + dd.size + 1 := by omega
          clear hdm
          by_cases hj0 : j = 0
          · have dj : decide ((0 : Int) < (j : Int)) = false := decide_eq_false (by omega)
            have djn : decide (0 < j) = false := decide_eq_false (by omega)
            have hR : Hid (txN l (j + 1) = s0 ++ nm ++ (⟨#[91]⟩ : ByteArray) ++ dd ++ (⟨#[93]⟩ : ByteArray)) := ⟨by rw [hsu.out, if_pos hj0, hse]; simp only [ba_assoc]⟩
            clear hj0 hI hok hsu hse hn0
            go_wp2_with (first
              | (go_at_call 14; refine cS.mono ?_; rintro _ w1 ⟨rfl, k1, k2, hB⟩; have cX := cD.out w1 hB.out)
              | (go_at_call 15; refine cX.mono ?_; rintro _ w2 ⟨rfl, hB2⟩))
            go_roundw
            case rel => exact ⟨j + 1, by omega, by rw [hR.out], by go_num, ⟨hB2.out, hall.out⟩⟩
            case measure => simp [RowKit.intOf]; omega
          · have dj : decide ((0 : Int) < (j : Int)) = true := decide_eq_true (by omega)
            have djn : decide (0 < j) = true := decide_eq_true (by omega)
            have hR : Hid (txN l (j + 1) = s0 ++ (⟨#[46]⟩ : ByteArray) ++ nm ++ (⟨#[91]⟩ : ByteArray) ++ dd ++ (⟨#[93]⟩ : ByteArray)) := ⟨by rw [hsu.out, if_neg hj0, hse]; simp only [ba_assoc]⟩
            clear hj0 hI hok hsu hse hn0
            go_wp2_with (first
              | (go_at_call 14; refine cS.mono ?_; rintro _ w1 ⟨rfl, k1, k2, hB⟩; have cX := cD.out w1 hB.out)
              | (go_at_call 15; refine cX.mono ?_; rintro _ w2 ⟨rfl, hB2⟩))
            go_roundw
            case rel => exact ⟨j + 1, by omega, by rw [hR.out], by go_num, ⟨hB2.out, hall.out⟩⟩
            case measure => simp [RowKit.intOf]; omega
        · have d4 : decide ((0 : Int) ≤ n) = false := decide_eq_false hn0
          by_cases hj0 : j = 0
          · have dj : decide ((0 : Int) < (j : Int)) = false := decide_eq_false (by omega)
            have djn : decide (0 < j) = false := decide_eq_false (by omega)
            have hR : Hid (txN l (j + 1) = s0 ++ nm) := ⟨by rw [hsu.out, if_pos hj0]; unfold seT; rw [if_neg hn0, ba_nil]⟩
            clear hj0 hI hok hsu
            go_wp2_with (go_at_call 14; refine cS.mono ?_; rintro _ w1 ⟨rfl, k1, k2, hB⟩)
            go_roundw
            case rel => exact ⟨j + 1, by omega, by rw [hR.out], by go_num, ⟨hB.out, hall.out⟩⟩
            case measure => simp [RowKit.intOf]; omega
          · have dj : decide ((0 : Int) < (j : Int)) = true := decide_eq_true (by omega)
            have djn : decide (0 < j) = true := decide_eq_true (by omega)
            have hR : Hid (txN l (j + 1) = (s0 ++ (⟨#[46]⟩ : ByteArray)) ++ nm) := ⟨by rw [hsu.out, if_neg hj0]; unfold seT; rw [if_neg hn0, ba_nil]⟩
            clear hj0 hI hok hsu
            go_wp2_with (go_at_call 14; refine cS.mono ?_; rintro _ w1 ⟨rfl, k1, k2, hB⟩)
            go_roundw
            case rel => exact ⟨j + 1, by omega, by rw [hR.out], by go_num, ⟨hB.out, hall.out⟩⟩
            case measure => simp [RowKit.intOf]; omega
    · obtain rfl : j = l.length := by omega
      have d3 : decide ((l.length : Int) < l.length) = false := by simp
      have hF : Hid (TE w l (.returned (.tuple #[.string (txN l l.length), .int .i64 0])) wr) := ⟨hI.out.1, .inl ⟨_, textZ_some hI.out.2, rfl⟩⟩
      clear hI hlt
      go_wp2_with fail
      exact bodyPost_ret (res_T21 _ _ _ rfl rfl _) rfl hF.out
end Go.Proofs.YtfikmlckcbnppaaDoor

/- made, fixed: their contracts. -/
import Derived.Test.YtjdinlgbfpkodaaLMade
namespace Go.Proofs.Ytjdinlgbfpkodaa
open Go.ChangeShapes Go.WideShapes Go.ChangeAt Go.RowKit Go.Shelf

theorem placeZ_fix : placeZ [⟨4, -1⟩, ⟨2, 6⟩] 9 = ⟨[0, 6], 9, 0, 0⟩ := by kernel_rfl
set_option maxHeartbeats 2000000 in
theorem fixed_any (w : World) : Calls Try.prog 13 #[] w fun r w' => r = .returned (.bool true) ∧ Below w.heap.size w w' := by
  have hB := bel1 w (.cells #[.int .i64 4, .int .i64 (-1), .int .i64 2, .int .i64 6] 35)
  have hh := heap_new w (.cells #[.int .i64 4, .int .i64 (-1), .int .i64 2, .int .i64 6] 35)
  have hr : RmRow (w.alloc (.cells #[.int .i64 4, .int .i64 (-1), .int .i64 2, .int .i64 6] 35)) (some ⟨w.heap.size, 0, none⟩) (w.heap.size + 1) [⟨4, -1⟩, ⟨2, 6⟩] :=
    ⟨fun i t ht => by
      match i, ht with
      | 0, ht => cases ht; exact ⟨_, _, rfl, by omega, cell_lit hh 0, cell_lit hh 1⟩
      | 1, ht => cases ht; exact ⟨_, _, rfl, by omega, cell_lit hh 2, cell_lit hh 3⟩
      | i + 2, ht => cases ht⟩
  have c1 := Place_any [⟨4, -1⟩, ⟨2, 6⟩] (some ⟨w.heap.size, 0, none⟩) 2 9 _ ⟨hr.mono (by rw [World.size_alloc]; omega)⟩ (by decide) (by
    intro x hx
    simp only [List.mem_cons, List.not_mem_nil, or_false] at hx
    rcases hx with rfl | rfl <;> exact ⟨⟨by decide, by decide⟩, ⟨by decide, by decide⟩⟩)
  rw [placeZ_fix] at c1
  dsimp only at c1
  go_enter Try.func13, Try.ntmps13
  go_wp2_with (first
    | (go_at_call 10; refine c1.mono ?_; rintro _ w1 ⟨v1, rfl, hO, hB1⟩; obtain ⟨pp, cp, rfl, hZ⟩ := hO.shape; obtain ⟨g, o, rfl, _, q0⟩ := hZ.c 0 0 rfl; obtain ⟨g1, o1, e1, _, q1⟩ := hZ.c 1 6 rfl; cases e1; rw [Nat.add_zero] at q0)
    | (go_at_call 12; refine (num_any _ _).mono ?_; rintro _ _ ⟨rfl, rfl⟩))
  go_ret
  exact ⟨rfl, hB.trans (hB1.mono hB.size)⟩
theorem madeR_cons (x : Rm) (r : List Rm) (e : Int) : madeR (x :: r) e = (roomS e x :: (madeR r (e + gapS x + x.sz % 70)).1, (e + gapS x) :: (madeR r (e + gapS x + x.sz % 70)).2.1, (madeR r (e + gapS x + x.sz % 70)).2.2) := rfl
set_option maxRecDepth 100000 in
set_option maxHeartbeats 8000000 in
theorem made_any (l : List Rm) (pp : Option Addr) (cp : Nat) (w : World) (hr : SlR w pp w.heap.size l) (hl : l.length ≤ 8796093021952) (hx : ∀ x ∈ l, x.ok) :
    Calls Try.prog 9 #[.slice pp l.length cp] w fun r w' => ∃ v u, r = .returned (.tuple #[v, u, .int .i64 (madeZ l).2.2]) ∧ ROwn w' w.heap.size v (madeZ l).1 ∧ ZOwn w' w.heap.size u (madeZ l).2.1 ∧ Below w.heap.size w w' := by
  obtain ⟨Z, hZ⟩ : ∃ Z, madeZ l = Z := ⟨_, rfl⟩
  rw [hZ]
  unfold madeZ at hZ
  have h70 := fun (v : Int) (W : World) => mod_any v 70 (by decide) (by decide) W
  go_enter Try.func9, Try.ntmps9
  go_wp2_with fail
  go_loopw [5, 6, 7, 8] (fun v u e n wr => ∃ (j : Nat) (ra : List Rm) (za : List Int) (E : Int), j ≤ l.length ∧ j ≤ 60 ∧ n = .int .i64 j ∧ e = .int .i64 E ∧ 0 ≤ E ∧ E ≤ 108 * j ∧ Hid (ra.length = j ∧ za.length = j) ∧ ROwn wr w.heap.size v ra ∧ ZOwn wr w.heap.size u za ∧ (∀ k, v.ownBlock = some k → u.ownBlock = some k → False) ∧ Below w.heap.size w wr ∧
      (ra ++ (madeR ((l.take 60).drop j) E).1, za ++ (madeR ((l.take 60).drop j) E).2.1, (madeR ((l.take 60).drop j) E).2.2) = Z) (fun _ _ _ n _ => l.length - (RowKit.intOf n).toNat)
  case atStart => exact ⟨0, [], [], 0, Nat.zero_le _, Nat.zero_le _, by go_num, by go_num, by decide, by decide, ⟨rfl, rfl⟩, World.ownsRow_nil _ _ _ 2, World.ownsRow_nil _ _ _ 1, (fun k h => by cases h), Below.refl _ _, hZ⟩
  case round =>
    obtain ⟨j, ra, za, E, hj, hj6, rfl, rfl, hE0, hE1, hla, hR, hA, hD, hB, hm⟩ := hrel
    by_cases hlt : j < l.length ∧ j < 60
    · obtain ⟨x, hxj⟩ : ∃ x, l[j]? = some x := ⟨l[j], List.getElem?_eq_getElem hlt.1⟩
      have hxt : (l.take 60)[j]? = some x := by rw [List.getElem?_take_of_lt hlt.2]; exact hxj
      obtain ⟨g, o, rfl, hg, q0, q1⟩ := (hr.row.below hB).c j x hxj
      rw [drop_at hxt, madeR_cons] at hm
      have hok := hx x (List.mem_of_getElem? hxj)
      have hg0 := gapS_b x
      obtain ⟨hlt1, hlt2⟩ := hlt
      have hlti : (j : Int) < l.length := by omega
      have hlti2 : (j : Int) < 60 := by omega
      clear hxj hxt hx hr
      have hS0 : 0 ≤ x.sz % 70 ∧ x.sz % 70 < 70 := by omega
      obtain ⟨hz, ho1, ho2⟩ := hok
      obtain ⟨sz, of⟩ := x
      unfold roomS at hm
      unfold gapS at hm hg0
      dsimp only at hm hg0 hS0 hz ho1 ho2 q0 q1
      by_cases hp : 0 ≤ of
      · simp only [hp, if_true] at hm hg0
        have htm : of.tmod 40 = of % 40 := Int.tmod_eq_emod_of_nonneg hp
        generalize hSe : sz % 70 = S at hm hS0
        generalize hGe : of % 40 = G at hm hg0 htm
        have h70b : ∀ W, Calls Try.prog 14 #[.int .i64 sz, .int .i64 70] W fun r w' => r = .returned (.int .i64 S) ∧ w' = W := fun W => by rw [← hSe]; exact h70 sz W
        obtain ⟨O, hO⟩ : ∃ O, O = E + G := ⟨_, rfl⟩
        clear h70 hSe hGe hz
        have hal := bel1 wr (.cells #[.int .i64 S, .int .i64 (E + G)] 35)
        have hal2 := bel1 (wr.alloc (.cells #[.int .i64 S, .int .i64 (E + G)] 35)) (.cells #[.int .i64 (E + G)] 3)
        have hA2 := own_below (own_below hA hal) hal2
        have hR2 := own_below (own_below hR hal) hal2
        have hsz := hB.size
        have hs1 : (wr.alloc (.cells #[.int .i64 S, .int .i64 (E + G)] 35)).heap.size = wr.heap.size + 1 := by rw [World.size_alloc]
        have hs2 : ((wr.alloc (.cells #[.int .i64 S, .int .i64 (E + G)] 35)).alloc (.cells #[.int .i64 (E + G)] 3)).heap.size = wr.heap.size + 2 := by rw [World.size_alloc, World.size_alloc]
        obtain ⟨u2, w2, hrun1, hO1, hg1, hb1⟩ := z_ap (bl := [E + G]) (ad := ⟨(wr.alloc (.cells #[.int .i64 S, .int .i64 (E + G)] 35)).heap.size, 0, none⟩) (H := (wr.alloc (.cells #[.int .i64 S, .int .i64 (E + G)] 35)).heap.size + 1) 1 hA2 (ZRow.lit (heap_new _ _) (Nat.lt_succ_self _)) (by have := hla.out.2; simp; omega) (by omega)
        have hB2 := own_bel hA2 hg1 (by omega)
        have hbx : w2.heap[wr.heap.size]? = some (.cells #[.int .i64 S, .int .i64 (E + G)] 35) :=
          ((hg1.block wr.heap.size (by omega) (fun e => by have := own_lt hA e.symm; omega)).trans (hal2.block _ (by omega))).trans (heap_new wr _)
        have y0 := cell_lit hbx 0
        have y1 := cell_lit hbx 1
        have hR3 : ROwn w2 w.heap.size u5 ra := own_same hR2 fun k hk => hg1.block k (own_lt hR2 hk).2 (fun e => hD k hk e.symm)
        have hs3 : wr.heap.size + 2 ≤ w2.heap.size := by have := hg1.size; omega
        have hal3 := bel1 w2 (.cells #[.int .i64 S, .int .i64 (E + G)] 35)
        have hR4 := own_below hR3 hal3
        obtain ⟨v3, w3, hrun2, hO2, hg2, hb2⟩ := r_ap (bl := [⟨S, E + G⟩]) (ad := ⟨w2.heap.size, 0, none⟩) (H := w2.heap.size + 1) 1 hR4 (RmRow.lit (heap_new w2 _) (Nat.lt_succ_self _)) (by have := hla.out.1; simp; omega) (by rw [World.size_alloc]; omega)
        have hB3 := own_bel hR4 hg2 (by rw [World.size_alloc]; omega)
        have hD1 : ∀ k, u5.ownBlock = some k → u2.ownBlock = some k → False := fun k h1 h2 => by
          rcases hb1 with h | h
          · rw [h] at h2; exact hD k h1 h2
          · rw [h] at h2; have := (own_lt hR h1).2; cases h2; omega
        have hO1' : ZOwn w3 w.heap.size u2 (za ++ [E + G]) := own_same hO1 fun k hk => (hg2.block k (by have := (own_lt hO1 hk).2; rw [World.size_alloc]; omega) (fun e => hD1 k e.symm hk)).trans (hal3.block k (own_lt hO1 hk).2)
        have hD2 : ∀ k, v3.ownBlock = some k → u2.ownBlock = some k → False := fun k h1 h2 => by
          rcases hb2 with h | h
          · rw [h] at h1; exact hD1 k h1 h2
          · rw [h] at h1; have := (own_lt hO1 h2).2; cases h1; rw [World.size_alloc] at this; omega
        have HB : Hid (Below w.heap.size w w3) := Hid.mk <| ((((hB.trans (hal.mono hsz)).trans (hal2.mono (by omega))).trans hB2).trans (hal3.mono (by omega))).trans hB3
        have HR : Hid (ROwn w3 w.heap.size v3 (ra ++ [⟨S, E + G⟩]) ∧ ZOwn w3 w.heap.size u2 (za ++ [E + G]) ∧ (∀ k, v3.ownBlock = some k → u2.ownBlock = some k → False)) := ⟨hO2, hO1', hD2⟩
        rw [hs1] at hrun1
        obtain ⟨pv, cv, hv, _⟩ := hR.shape
        obtain ⟨pu, cu, hu, _⟩ := hA.shape
        obtain ⟨p3, c3, hv3, _⟩ := hO2.shape
        obtain ⟨p2, c2, hu2, _⟩ := hO1.shape
        rw [List.length_append, List.length_singleton] at hv3 hu2
        have r1 : (wr.alloc (.cells #[.int .i64 S, .int .i64 (-1)] 35)).cell? ⟨g, o + j * 2 + 1, none⟩ = some (.int .i64 of) := ((bel1 wr _).cell (p := ⟨g, o + j * 2 + 1, none⟩) (show g < wr.heap.size by omega)).trans q1
        clear hO2 hO1 hO1' hD2 hD1 hD hB hal hal2 hal3 hB2 hB3 hR hA hR2 hA2 hR3 hR4 hg1 hg2 hb1 hb2 hbx
        subst hv hu hv3 hu2
        have F1 : Hid (1 = 1) := ⟨rfl⟩
        go_wp2_with (first
          | (go_at_call 14; refine (h70b _).mono ?_; rintro _ _ ⟨rfl, rfl⟩)
          | (at_builtin; first
            | (clear F1; refine (wpList_append_ex (by rfl) _ _ _ _ (by rfl) _ _ (by rfl) (by rfl) (fun a b => a = _ ∧ b = w2) ⟨_, w2, hrun1, rfl, rfl⟩ ?_); rintro _ _ ⟨rfl, rfl⟩)
            | (refine (wpList_append_ex (by rfl) _ _ _ _ (by rfl) _ _ (by rfl) (by rfl) (fun a b => a = _ ∧ b = w3) ⟨_, w3, hrun2, rfl, rfl⟩ ?_); rintro _ _ ⟨rfl, rfl⟩)))
        go_roundw
        case rel => exact ⟨j + 1, ra ++ [⟨S, E + G⟩], za ++ [E + G], E + G + S, by omega, by omega, by go_num, rfl, by omega, by omega, ⟨by have := hla.out.1; have := hla.out.2; simp; omega⟩, HR.out.1, HR.out.2.1, HR.out.2.2, HB.out, by rw [List.append_assoc, List.append_assoc]; exact hm⟩
        case measure => simp [RowKit.intOf]; omega
      · simp only [hp, if_false] at hm hg0
        generalize hSe : sz % 70 = S at hm hS0
        have h70b : ∀ W, Calls Try.prog 14 #[.int .i64 sz, .int .i64 70] W fun r w' => r = .returned (.int .i64 S) ∧ w' = W := fun W => by rw [← hSe]; exact h70 sz W
        clear h70 hSe hz
        rw [Int.add_zero] at hm
        have hal := bel1 wr (.cells #[.int .i64 S, .int .i64 (-1)] 35)
        have hal2 := bel1 (wr.alloc (.cells #[.int .i64 S, .int .i64 (-1)] 35)) (.cells #[.int .i64 (E)] 3)
        have hA2 := own_below (own_below hA hal) hal2
        have hR2 := own_below (own_below hR hal) hal2
        have hsz := hB.size
        have hs1 : (wr.alloc (.cells #[.int .i64 S, .int .i64 (-1)] 35)).heap.size = wr.heap.size + 1 := by rw [World.size_alloc]
        have hs2 : ((wr.alloc (.cells #[.int .i64 S, .int .i64 (-1)] 35)).alloc (.cells #[.int .i64 (E)] 3)).heap.size = wr.heap.size + 2 := by rw [World.size_alloc, World.size_alloc]
        obtain ⟨u2, w2, hrun1, hO1, hg1, hb1⟩ := z_ap (bl := [E]) (ad := ⟨(wr.alloc (.cells #[.int .i64 S, .int .i64 (-1)] 35)).heap.size, 0, none⟩) (H := (wr.alloc (.cells #[.int .i64 S, .int .i64 (-1)] 35)).heap.size + 1) 1 hA2 (ZRow.lit (heap_new _ _) (Nat.lt_succ_self _)) (by have := hla.out.2; simp; omega) (by omega)
        have hB2 := own_bel hA2 hg1 (by omega)
        have hbx : w2.heap[wr.heap.size]? = some (.cells #[.int .i64 S, .int .i64 (-1)] 35) :=
          ((hg1.block wr.heap.size (by omega) (fun e => by have := own_lt hA e.symm; omega)).trans (hal2.block _ (by omega))).trans (heap_new wr _)
        have y0 := cell_lit hbx 0
        have y1 := cell_lit hbx 1
        have hR3 : ROwn w2 w.heap.size u5 ra := own_same hR2 fun k hk => hg1.block k (own_lt hR2 hk).2 (fun e => hD k hk e.symm)
        have hs3 : wr.heap.size + 2 ≤ w2.heap.size := by have := hg1.size; omega
        have hal3 := bel1 w2 (.cells #[.int .i64 S, .int .i64 (-1)] 35)
        have hR4 := own_below hR3 hal3
        obtain ⟨v3, w3, hrun2, hO2, hg2, hb2⟩ := r_ap (bl := [⟨S, -1⟩]) (ad := ⟨w2.heap.size, 0, none⟩) (H := w2.heap.size + 1) 1 hR4 (RmRow.lit (heap_new w2 _) (Nat.lt_succ_self _)) (by have := hla.out.1; simp; omega) (by rw [World.size_alloc]; omega)
        have hB3 := own_bel hR4 hg2 (by rw [World.size_alloc]; omega)
        have hD1 : ∀ k, u5.ownBlock = some k → u2.ownBlock = some k → False := fun k h1 h2 => by
          rcases hb1 with h | h
          · rw [h] at h2; exact hD k h1 h2
          · rw [h] at h2; have := (own_lt hR h1).2; cases h2; omega
        have hO1' : ZOwn w3 w.heap.size u2 (za ++ [E]) := own_same hO1 fun k hk => (hg2.block k (by have := (own_lt hO1 hk).2; rw [World.size_alloc]; omega) (fun e => hD1 k e.symm hk)).trans (hal3.block k (own_lt hO1 hk).2)
        have hD2 : ∀ k, v3.ownBlock = some k → u2.ownBlock = some k → False := fun k h1 h2 => by
          rcases hb2 with h | h
          · rw [h] at h1; exact hD1 k h1 h2
          · rw [h] at h1; have := (own_lt hO1 h2).2; cases h1; rw [World.size_alloc] at this; omega
        have HB : Hid (Below w.heap.size w w3) := Hid.mk <| ((((hB.trans (hal.mono hsz)).trans (hal2.mono (by omega))).trans hB2).trans (hal3.mono (by omega))).trans hB3
        have HR : Hid (ROwn w3 w.heap.size v3 (ra ++ [⟨S, -1⟩]) ∧ ZOwn w3 w.heap.size u2 (za ++ [E]) ∧ (∀ k, v3.ownBlock = some k → u2.ownBlock = some k → False)) := ⟨hO2, hO1', hD2⟩
        rw [hs1] at hrun1
        obtain ⟨pv, cv, hv, _⟩ := hR.shape
        obtain ⟨pu, cu, hu, _⟩ := hA.shape
        obtain ⟨p3, c3, hv3, _⟩ := hO2.shape
        obtain ⟨p2, c2, hu2, _⟩ := hO1.shape
        rw [List.length_append, List.length_singleton] at hv3 hu2
        have r1 : (wr.alloc (.cells #[.int .i64 S, .int .i64 (-1)] 35)).cell? ⟨g, o + j * 2 + 1, none⟩ = some (.int .i64 of) := ((bel1 wr _).cell (p := ⟨g, o + j * 2 + 1, none⟩) (show g < wr.heap.size by omega)).trans q1
        clear hO2 hO1 hO1' hD2 hD1 hD hB hal hal2 hal3 hB2 hB3 hR hA hR2 hA2 hR3 hR4 hg1 hg2 hb1 hb2 hbx
        subst hv hu hv3 hu2
        have F1 : Hid (1 = 1) := ⟨rfl⟩
        go_wp2_with (first
          | (go_at_call 14; refine (h70b _).mono ?_; rintro _ _ ⟨rfl, rfl⟩)
          | (at_builtin; first
            | (clear F1; refine (wpList_append_ex (by rfl) _ _ _ _ (by rfl) _ _ (by rfl) (by rfl) (fun a b => a = _ ∧ b = w2) ⟨_, w2, hrun1, rfl, rfl⟩ ?_); rintro _ _ ⟨rfl, rfl⟩)
            | (refine (wpList_append_ex (by rfl) _ _ _ _ (by rfl) _ _ (by rfl) (by rfl) (fun a b => a = _ ∧ b = w3) ⟨_, w3, hrun2, rfl, rfl⟩ ?_); rintro _ _ ⟨rfl, rfl⟩)))
        go_roundw
        case rel => exact ⟨j + 1, ra ++ [⟨S, -1⟩], za ++ [E], E + S, by omega, by omega, by go_num, rfl, by omega, by omega, ⟨by have := hla.out.1; have := hla.out.2; simp; omega⟩, HR.out.1, HR.out.2.1, HR.out.2.2, HB.out, by rw [List.append_assoc, List.append_assoc]; exact hm⟩
        case measure => simp [RowKit.intOf]; omega
    · have hdr : (l.take 60).drop j = [] := List.drop_eq_nil_of_le (by simp; omega)
      rw [hdr] at hm
      simp only [madeR, List.append_nil] at hm
      subst hm
      obtain ⟨pv, cv, hv, _⟩ := hR.shape
      obtain ⟨pu, cu, hu, _⟩ := hA.shape
      have HR : Hid (ROwn wr w.heap.size u5 ra ∧ ZOwn wr w.heap.size u6 za) := ⟨hR, hA⟩
      clear hR hA hD hdr hZ
      subst hv hu
      by_cases hl1 : j < l.length
      · have hl2 : ¬ (j : Int) < 60 := by omega
        have hl3 : (j : Int) < l.length := by omega
        go_wp2_with fail
        exact bodyPost_ret (v := .tuple #[.slice pv ra.length cv, .slice pu za.length cu, .int .i64 E]) (by simp [results, Try.results9, go_sem]) rfl ⟨_, _, rfl, HR.out.1, HR.out.2, hB⟩
      · have hl3 : ¬ (j : Int) < l.length := by omega
        go_wp2_with fail
        exact bodyPost_ret (v := .tuple #[.slice pv ra.length cv, .slice pu za.length cu, .int .i64 E]) (by simp [results, Try.results9, go_sem]) rfl ⟨_, _, rfl, HR.out.1, HR.out.2, hB⟩
end Go.Proofs.Ytjdinlgbfpkodaa

/- TKk, TKo, TKl. -/
import Derived.Test.YtchfphakhmifmabGreatDoorTK1
import Derived.Deep.RegionHeld
import Derived.Test.YtchfphakhmifmabGreatDoorTA4
import Derived.Test.YtchfphakhmifmabGreatDoorTPl
namespace Go.Proofs.YtchfphakhmifmabGreatDoor
open Go.ChangeShapes Go.WideShapes Go.ChangeAt Go.RowKit Go.Lib

set_option maxRecDepth 100000 in
set_option maxHeartbeats 8000000 in
theorem keep_any (B : Nat) (f : Nat → Rw) (E A : List Value) (vE : Value) (ex : List Elx) (w : World) (h : BK w B f E A) (h2 : f 2 = elR vE ex) (ha : ∀ i x, ex[i]? = some x → f (3 + i) = atR x) (hex : ex.length ≤ 20000) (hat : ∀ x ∈ ex, x.e.ats.length ≤ 24) (hE : E.length ≤ 1000) (hA : A.length ≤ 900000) :
    Calls Tryz.prog 15 #[.pointer (some ⟨B, 0, none⟩), vE] w fun e w' => e = .returned (.tuple #[]) ∧ Below B w w' ∧ ∃ f' E' A', BK w' B f' E' A' ∧ E'.length = E.length + 2 ∧ A'.length = A.length + 2 * ex.length := by
  have hm := fun n (hn : n < 1000000000) W => mark_any n hn W
  have c0 := (bk_cells h).1
  obtain ⟨p0, q0, hv0⟩ := own_sl (bk_own0 h)
  rw [hv0] at c0
  have hI : KI w w B E A vE ex 0 f A := ⟨h, by rw [fm_zero]; exact h2, fun i x _ hx => ha i x hx, rfl, Below.refl _ _⟩
  have r1 : Int.tdiv (E.length : Int) 2 = ((E.length / 2 : Nat) : Int) := by rw [Int.tdiv_eq_ediv_of_nonneg (by omega)]; omega
  have r2 : IntKind.i64.wrap ((E.length / 2 : Nat) : Int) = ((E.length / 2 : Nat) : Int) := by rw [IntKind.wrap_i64]; omega
  have cM := hm (E.length / 2) (by omega) w
  obtain ⟨pe, ce, hve⟩ : ∃ p c, vE = .slice p ex.length c := by
    have := elR_own hI.b hI.r2
    exact own_sl this
  subst hve
  clear h2 ha h
  go_enter Tryz.func15, Tryz.ntmps15
  go_wp2_with (go_at_call 33; refine cM.mono ?_; rintro _ w1 ⟨rfl, hb1⟩; have hI1 := hI.below hb1; clear cM hI)
  go_loopw [5] (fun i wr => ∃ (k : Nat) (F : Nat → Rw) (A' : List Value), k ≤ ex.length ∧ i = .int .i64 (k : Int) ∧ KI w wr B E A (.slice pe ex.length ce) ex k F A') (fun i _ => ex.length - (RowKit.intOf i).toNat)
  case atStart => exact ⟨0, f, A, Nat.zero_le _, rfl, hI1⟩
  case round =>
    obtain ⟨k, F, A', hk, rfl, hI⟩ := hrel
    clear hI1 hb1 c0 hv0 r1 r2
    by_cases hlt : k < ex.length
    · obtain ⟨x, hx⟩ : ∃ x, ex[k]? = some x := ⟨ex[k], List.getElem?_eq_getElem hlt⟩
      have hn := hat x (List.mem_of_getElem? hx)
      obtain ⟨gE, cE, pa, ca, e1, hav, d2, hgE⟩ := hI.av hx
      injection e1 with e1 _ e2
      subst e1 e2
      have d1 := (bk_cells hI.b).2
      obtain ⟨p1, q1, hv1⟩ := own_sl (bk_own1 hI.b)
      rw [hv1] at d1
      have HlA := Hid.mkT hI.l
      have hlb : A'.length ≤ 940000 := by have := hI.l; omega
      have s1 : Int.tdiv (A'.length : Int) 2 = ((A'.length / 2 : Nat) : Int) := by rw [Int.tdiv_eq_ediv_of_nonneg (by omega)]; omega
      have s2 : IntKind.i64.wrap ((A'.length / 2 : Nat) : Int) = ((A'.length / 2 : Nat) : Int) := by rw [IntKind.wrap_i64]; omega
      have cM := (hm (A'.length / 2) (by omega) wr).mono (R' := fun e w2 => e = .returned (.string (mkS (A'.length / 2))) ∧ w2.cell? ⟨gE, k * 5 + 2, none⟩ = some (.slice pa x.e.ats.length ca) ∧ KI w w2 B E A (.slice (some ⟨gE, 0, none⟩) ex.length ce) ex k F A') fun e w2 ⟨h1, h2⟩ => ⟨h1, (h2.cell (p := ⟨gE, _, none⟩) hgE).trans d2, hI.below h2⟩
      have hlt' : (k : Int) < ex.length := by omega
      clear hI d2 hv1 hm hat
      go_wp2_with (go_at_call 33; refine cM.mono ?_; rintro _ w2 ⟨rfl, f2, hI2⟩; have hJ := hI2.inner hx; clear cM)
      go_loopw [8] (fun j wr' => ∃ (q : Nat) (F' : Nat → Rw), q ≤ x.e.ats.length ∧ j = .int .i64 (q : Int) ∧ KJ w wr' B E A' (.slice (some ⟨gE, 0, none⟩) ex.length ce) ex k x F' q) (fun j _ => x.e.ats.length - (RowKit.intOf j).toNat)
      case atStart => exact ⟨0, F, Nat.zero_le _, rfl, hJ⟩
      case round =>
        obtain ⟨q, F', hq, rfl, hJ'⟩ := hrel
        clear hJ hI2 f2 s1 s2 d1
        by_cases hql : q < x.e.ats.length
        · obtain ⟨ga, cga, eg, ⟨u, z1⟩, z2, F2, hJ2⟩ := hJ'.step hql
          rw [hav] at eg
          injection eg with eg _ eg2
          subst eg eg2
          have hql' : (q : Int) < x.e.ats.length := by omega
          go_wp2_with fail
          go_roundw
          case rel => exact ⟨q + 1, F2, by omega, by go_num, hJ2⟩
          case measure => simp [RowKit.intOf]; omega
        · obtain rfl : q = x.e.ats.length := by omega
          have hr3 := hJ'.r3
          rw [fm_all, hav] at hr3
          obtain ⟨pa2, ca2, pA, cA, p3, c3, w3, p5, c5, w5, eva, -, ⟨k0, k1, k3, k4, k5, k5f⟩, run1, run2, hBel, F6, h6, hF6⟩ := keepA hJ'.b (by omega) hr3 (by omega) (by omega)
          injection eva with eva _ eva2
          subst eva eva2
          obtain ⟨gE2, cE2, eE, ⟨u, y1⟩, y2, F7, h7⟩ := hJ'.name hx HlA.out h6 hF6 (by rw [List.length_append]; rfl) hBel
          injection eE with eE _ eE2
          injection eE with eE
          injection eE with eE
          subst eE eE2
          have HX : Hid (∃ (k' : Nat) (F : Nat → Rw) (A' : List Value), k' ≤ ex.length ∧ Value.int .i64 ((k : Int) + 1) = .int .i64 (k' : Int) ∧ KI w _ B E A (.slice (some ⟨gE, 0, none⟩) ex.length ce) ex k' F A') := Hid.mkT ⟨k + 1, F7, _, hlt, rfl, h7⟩
          clear h7 h6 hF6 hBel hJ' hr3 hx HlA hav
          generalize x.e.ats.length = N at *
          go_wp2_with fail
          refine wp_region_held_drew (S := fun _ => True) (by kernel_rfl) trivial (fun hHeld => ?_)
          refine wpAnyH_take (i := 0) (oi := { dst := some 45, op := Op.move (Operand.tmp 0), type := 41, pos := "law.go:156", after := #[], guard := none }) (v := ?v1) rfl (by kernel_rfl) (by kernel_rfl) (by kernel_rfl) (fun _ _ _ h => h) (Or.inl ⟨by rfl, ?hy1⟩) (by assumption) ?rest1
          case hy1 => (intro w hSw; (try dsimp only at hSw); go_simp <;> with_reducible rfl)
          try simp only [Act.put, List.setIfInBounds_toArray, List.set_cons_zero, List.set_cons_succ]
          refine wpAnyH_take (i := 1) (oi := { dst := some 46, op := Op.move (Operand.tmp 0), type := 41, pos := "law.go:156", after := #[], guard := none }) (v := ?v2) rfl (by kernel_rfl) (by kernel_rfl) (by kernel_rfl) (fun _ _ _ h => h) (Or.inl ⟨by rfl, ?hy2⟩) (by assumption) ?rest2
          case hy2 => (intro w hSw; (try dsimp only at hSw); go_simp <;> with_reducible rfl)
          try simp only [Act.put, List.setIfInBounds_toArray, List.set_cons_zero, List.set_cons_succ]
          refine wpAnyH_take (i := 2) (oi := { dst := some 47, op := Op.nilCheck (Operand.tmp 46), type := 0, pos := "law.go:156", after := #[{ on := 1, ground := Ground.data }], guard := none }) (v := ?v3) rfl (by kernel_rfl) (by kernel_rfl) (by kernel_rfl) (fun _ _ _ h => h) (Or.inl ⟨by rfl, ?hy3⟩) (by assumption) ?rest3
          case hy3 => (intro w hSw; (try dsimp only at hSw); go_simp <;> with_reducible rfl)
          try simp only [Act.put, List.setIfInBounds_toArray, List.set_cons_zero, List.set_cons_succ]
          refine wpAnyH_take (i := 3) (oi := { dst := some 48, op := Op.fieldAddr 45 (Operand.tmp 47) 1, type := 0, pos := "law.go:156", after := #[{ on := 2, ground := Ground.data }], guard := none }) (v := ?v4) rfl (by kernel_rfl) (by kernel_rfl) (by kernel_rfl) (fun _ _ _ h => h) (Or.inl ⟨by rfl, ?hy4⟩) (by assumption) ?rest4
          case hy4 => (intro w hSw; (try dsimp only at hSw); go_simp <;> with_reducible rfl)
          try simp only [Act.put, List.setIfInBounds_toArray, List.set_cons_zero, List.set_cons_succ]
          refine wpAnyH_take (i := 5) (oi := { dst := some 50, op := Op.move (Operand.tmp 7), type := 30, pos := "law.go:156", after := #[], guard := none }) (v := ?v5) rfl (by kernel_rfl) (by kernel_rfl) (by kernel_rfl) (fun _ _ _ h => h) (Or.inl ⟨by rfl, ?hy5⟩) (by assumption) ?rest5
          case hy5 => (intro w hSw; (try dsimp only at hSw); go_simp <;> with_reducible rfl)
          try simp only [Act.put, List.setIfInBounds_toArray, List.set_cons_zero, List.set_cons_succ]
          refine wpAnyH_take (i := 6) (oi := { dst := some 51, op := Op.move (Operand.tmp 7), type := 30, pos := "law.go:156", after := #[], guard := none }) (v := ?v6) rfl (by kernel_rfl) (by kernel_rfl) (by kernel_rfl) (fun _ _ _ h => h) (Or.inl ⟨by rfl, ?hy6⟩) (by assumption) ?rest6
          case hy6 => (intro w hSw; (try dsimp only at hSw); go_simp <;> with_reducible rfl)
          try simp only [Act.put, List.setIfInBounds_toArray, List.set_cons_zero, List.set_cons_succ]
          refine wpAnyH_take (i := 7) (oi := { dst := some 52, op := Op.move (Operand.tmp 6), type := 9, pos := "law.go:156", after := #[], guard := none }) (v := ?v7) rfl (by kernel_rfl) (by kernel_rfl) (by kernel_rfl) (fun _ _ _ h => h) (Or.inl ⟨by rfl, ?hy7⟩) (by assumption) ?rest7
          case hy7 => (intro w hSw; (try dsimp only at hSw); go_simp <;> with_reducible rfl)
          try simp only [Act.put, List.setIfInBounds_toArray, List.set_cons_zero, List.set_cons_succ]
          refine wpAnyH_take (i := 8) (oi := { dst := some 53, op := Op.build 54 #[(0, Operand.tmp 52)], type := 54, pos := "law.go:156", after := #[{ on := 7, ground := Ground.data }], guard := none }) (v := ?v8) rfl (by kernel_rfl) (by kernel_rfl) (by kernel_rfl) (fun _ _ _ h => h) (Or.inl ⟨by rfl, ?hy8⟩) (by assumption) ?rest8
          case hy8 => (intro w hSw; (try dsimp only at hSw); go_simp <;> with_reducible rfl)
          try simp only [Act.put, List.setIfInBounds_toArray, List.set_cons_zero, List.set_cons_succ]
          refine wpAnyH_ready (rs := [4, 9]) (by kernel_rfl) (by simp) (AllReadyH.cons (o := { dst := some 49, op := Op.load 43 (Operand.tmp 48), type := 43, pos := "law.go:156", after := #[{ on := 3, ground := Ground.data }], guard := none }) rfl (fun K hK => ?_) (AllReadyH.cons (o := { dst := some 54, op := Op.buildSlice 30 1 #[(0, Operand.tmp 53)], type := 30, pos := "law.go:156", after := #[{ on := 8, ground := Ground.data }], guard := none }) rfl (fun K hK => ?_) (AllReadyH.nil)))
          · go_simp
            refine hK.out _ _ trivial (fun hHeld => ?_)
            clear hK K
            try simp only [Act.put, List.setIfInBounds_toArray, List.set_cons_zero, List.set_cons_succ]
            refine wpAnyH_ready (rs := [9]) (by kernel_rfl) (by simp) (AllReadyH.cons (o := { dst := some 54, op := Op.buildSlice 30 1 #[(0, Operand.tmp 53)], type := 30, pos := "law.go:156", after := #[{ on := 8, ground := Ground.data }], guard := none }) rfl (fun K hK => ?_) (AllReadyH.nil))
            go_simp
            refine hK.out _ _ trivial (fun hHeld => ?_)
            clear hK K
            try simp only [Act.put, List.setIfInBounds_toArray, List.set_cons_zero, List.set_cons_succ]
            refine wpAnyH_ready (rs := [10]) (by kernel_rfl) (by simp) (AllReadyH.cons (o := { dst := some 55, op := Op.call { callee := Callee.builtin Builtin.append, args := #[Operand.tmp 51, Operand.tmp 54], argTypes := #[30, 30] }, type := 30, pos := "law.go:156", after := #[{ on := 6, ground := Ground.data }, { on := 9, ground := Ground.data }], guard := none }) rfl (fun K hK => ?_) (AllReadyH.nil))
            refine step_append_ex ?_ (.tmp 51) (.tmp 54) _ _ ?_ _ _ ?_ ?_ (fun a b => a = _ ∧ b = w3) ⟨_, w3, run1, rfl, rfl⟩ ?_
            · rfl
            · rfl
            · rfl
            · rfl
            rintro _ _ ⟨rfl, rfl⟩
            refine hK.out _ _ trivial (fun hHeld => ?_)
            clear hK K
            try simp only [Act.put, List.setIfInBounds_toArray, List.set_cons_zero, List.set_cons_succ]
            refine wpAnyH_ready (rs := [11]) (by kernel_rfl) (by simp) (AllReadyH.cons (o := { dst := some 56, op := Op.buildSlice 43 2 #[(0, Operand.tmp 50), (1, Operand.tmp 55)], type := 43, pos := "law.go:156", after := #[{ on := 5, ground := Ground.data }, { on := 10, ground := Ground.data }], guard := none }) rfl (fun K hK => ?_) (AllReadyH.nil))
            go_simp
            refine hK.out _ _ trivial (fun hHeld => ?_)
            clear hK K
            try simp only [Act.put, List.setIfInBounds_toArray, List.set_cons_zero, List.set_cons_succ]
            refine wpAnyH_ready (rs := [12]) (by kernel_rfl) (by simp) (AllReadyH.cons (o := { dst := some 57, op := Op.call { callee := Callee.builtin Builtin.append, args := #[Operand.tmp 49, Operand.tmp 56], argTypes := #[43, 43] }, type := 43, pos := "law.go:156", after := #[{ on := 4, ground := Ground.data }, { on := 11, ground := Ground.data }, { on := 10, ground := Ground.chain }], guard := none }) rfl (fun K hK => ?_) (AllReadyH.nil))
            refine step_append_ex ?_ (.tmp 49) (.tmp 56) _ _ ?_ _ _ ?_ ?_ (fun a b => a = _ ∧ b = w5) ⟨_, w5, run2, rfl, rfl⟩ ?_
            · rfl
            · rfl
            · rfl
            · rfl
            rintro _ _ ⟨rfl, rfl⟩
            refine hK.out _ _ trivial (fun hHeld => ?_)
            clear hK K
            try simp only [Act.put, List.setIfInBounds_toArray, List.set_cons_zero, List.set_cons_succ]
            refine wpAnyH_take (i := 13) (oi := { dst := some 58, op := Op.nilCheck (Operand.tmp 45), type := 0, pos := "law.go:156", after := #[{ on := 0, ground := Ground.data }, { on := 0, ground := Ground.phase }, { on := 1, ground := Ground.phase }, { on := 2, ground := Ground.phase }, { on := 3, ground := Ground.phase }, { on := 4, ground := Ground.phase }, { on := 5, ground := Ground.phase }, { on := 6, ground := Ground.phase }, { on := 7, ground := Ground.phase }, { on := 8, ground := Ground.phase }, { on := 9, ground := Ground.phase }, { on := 10, ground := Ground.phase }, { on := 11, ground := Ground.phase }, { on := 12, ground := Ground.phase }], guard := none }) (v := ?v9) rfl (by kernel_rfl) (by kernel_rfl) (by kernel_rfl) (fun _ _ _ h => h) (Or.inl ⟨by rfl, ?hy9⟩) (by assumption) ?rest9
            case hy9 => (intro w hSw; (try dsimp only at hSw); go_simp <;> with_reducible rfl)
            try simp only [Act.put, List.setIfInBounds_toArray, List.set_cons_zero, List.set_cons_succ]
            refine wpAnyH_take (i := 14) (oi := { dst := some 59, op := Op.fieldAddr 45 (Operand.tmp 58) 1, type := 0, pos := "law.go:156", after := #[{ on := 13, ground := Ground.data }, { on := 0, ground := Ground.phase }, { on := 1, ground := Ground.phase }, { on := 2, ground := Ground.phase }, { on := 3, ground := Ground.phase }, { on := 4, ground := Ground.phase }, { on := 5, ground := Ground.phase }, { on := 6, ground := Ground.phase }, { on := 7, ground := Ground.phase }, { on := 8, ground := Ground.phase }, { on := 9, ground := Ground.phase }, { on := 10, ground := Ground.phase }, { on := 11, ground := Ground.phase }, { on := 12, ground := Ground.phase }], guard := none }) (v := ?v10) rfl (by kernel_rfl) (by kernel_rfl) (by kernel_rfl) (fun _ _ _ h => h) (Or.inl ⟨by rfl, ?hy10⟩) (by assumption) ?rest10
            case hy10 => (intro w hSw; (try dsimp only at hSw); go_simp <;> with_reducible rfl)
            try simp only [Act.put, List.setIfInBounds_toArray, List.set_cons_zero, List.set_cons_succ]
            refine wpAnyH_ready (rs := [15]) (by kernel_rfl) (by simp) (AllReadyH.cons (o := { dst := none, op := Op.store 43 (Operand.tmp 59) (Operand.tmp 57), type := 0, pos := "law.go:156", after := #[{ on := 14, ground := Ground.data }, { on := 12, ground := Ground.data }, { on := 12, ground := Ground.chain }, { on := 0, ground := Ground.phase }, { on := 1, ground := Ground.phase }, { on := 2, ground := Ground.phase }, { on := 3, ground := Ground.phase }, { on := 4, ground := Ground.phase }, { on := 5, ground := Ground.phase }, { on := 6, ground := Ground.phase }, { on := 7, ground := Ground.phase }, { on := 8, ground := Ground.phase }, { on := 9, ground := Ground.phase }, { on := 10, ground := Ground.phase }, { on := 11, ground := Ground.phase }, { on := 12, ground := Ground.phase }], guard := none }) rfl (fun K hK => ?_) (AllReadyH.nil))
            go_simp
            refine hK.out _ _ trivial (fun hHeld => ?_)
            clear hK K
            try simp only [Act.put, List.setIfInBounds_toArray, List.set_cons_zero, List.set_cons_succ]
            refine wpAnyH_done (by kernel_rfl) ?_ _
            go_wp2_with fail
            go_roundw
            case rel => exact HX.out
            case measure => simp [RowKit.intOf]; omega
          · go_simp
            refine hK.out _ _ trivial (fun hHeld => ?_)
            clear hK K
            try simp only [Act.put, List.setIfInBounds_toArray, List.set_cons_zero, List.set_cons_succ]
            refine wpAnyH_ready (rs := [4, 10]) (by kernel_rfl) (by simp) (AllReadyH.cons (o := { dst := some 49, op := Op.load 43 (Operand.tmp 48), type := 43, pos := "law.go:156", after := #[{ on := 3, ground := Ground.data }], guard := none }) rfl (fun K hK => ?_) (AllReadyH.cons (o := { dst := some 55, op := Op.call { callee := Callee.builtin Builtin.append, args := #[Operand.tmp 51, Operand.tmp 54], argTypes := #[30, 30] }, type := 30, pos := "law.go:156", after := #[{ on := 6, ground := Ground.data }, { on := 9, ground := Ground.data }], guard := none }) rfl (fun K hK => ?_) (AllReadyH.nil)))
            · go_simp
              refine hK.out _ _ trivial (fun hHeld => ?_)
              clear hK K
              try simp only [Act.put, List.setIfInBounds_toArray, List.set_cons_zero, List.set_cons_succ]
              refine wpAnyH_ready (rs := [10]) (by kernel_rfl) (by simp) (AllReadyH.cons (o := { dst := some 55, op := Op.call { callee := Callee.builtin Builtin.append, args := #[Operand.tmp 51, Operand.tmp 54], argTypes := #[30, 30] }, type := 30, pos := "law.go:156", after := #[{ on := 6, ground := Ground.data }, { on := 9, ground := Ground.data }], guard := none }) rfl (fun K hK => ?_) (AllReadyH.nil))
              refine step_append_ex ?_ (.tmp 51) (.tmp 54) _ _ ?_ _ _ ?_ ?_ (fun a b => a = _ ∧ b = w3) ⟨_, w3, run1, rfl, rfl⟩ ?_
              · rfl
              · rfl
              · rfl
              · rfl
              rintro _ _ ⟨rfl, rfl⟩
              refine hK.out _ _ trivial (fun hHeld => ?_)
              clear hK K
              try simp only [Act.put, List.setIfInBounds_toArray, List.set_cons_zero, List.set_cons_succ]
              refine wpAnyH_ready (rs := [11]) (by kernel_rfl) (by simp) (AllReadyH.cons (o := { dst := some 56, op := Op.buildSlice 43 2 #[(0, Operand.tmp 50), (1, Operand.tmp 55)], type := 43, pos := "law.go:156", after := #[{ on := 5, ground := Ground.data }, { on := 10, ground := Ground.data }], guard := none }) rfl (fun K hK => ?_) (AllReadyH.nil))
              go_simp
              refine hK.out _ _ trivial (fun hHeld => ?_)
              clear hK K
              try simp only [Act.put, List.setIfInBounds_toArray, List.set_cons_zero, List.set_cons_succ]
              refine wpAnyH_ready (rs := [12]) (by kernel_rfl) (by simp) (AllReadyH.cons (o := { dst := some 57, op := Op.call { callee := Callee.builtin Builtin.append, args := #[Operand.tmp 49, Operand.tmp 56], argTypes := #[43, 43] }, type := 43, pos := "law.go:156", after := #[{ on := 4, ground := Ground.data }, { on := 11, ground := Ground.data }, { on := 10, ground := Ground.chain }], guard := none }) rfl (fun K hK => ?_) (AllReadyH.nil))
              refine step_append_ex ?_ (.tmp 49) (.tmp 56) _ _ ?_ _ _ ?_ ?_ (fun a b => a = _ ∧ b = w5) ⟨_, w5, run2, rfl, rfl⟩ ?_
              · rfl
              · rfl
              · rfl
              · rfl
              rintro _ _ ⟨rfl, rfl⟩
              refine hK.out _ _ trivial (fun hHeld => ?_)
              clear hK K
              try simp only [Act.put, List.setIfInBounds_toArray, List.set_cons_zero, List.set_cons_succ]
              refine wpAnyH_take (i := 13) (oi := { dst := some 58, op := Op.nilCheck (Operand.tmp 45), type := 0, pos := "law.go:156", after := #[{ on := 0, ground := Ground.data }, { on := 0, ground := Ground.phase }, { on := 1, ground := Ground.phase }, { on := 2, ground := Ground.phase }, { on := 3, ground := Ground.phase }, { on := 4, ground := Ground.phase }, { on := 5, ground := Ground.phase }, { on := 6, ground := Ground.phase }, { on := 7, ground := Ground.phase }, { on := 8, ground := Ground.phase }, { on := 9, ground := Ground.phase }, { on := 10, ground := Ground.phase }, { on := 11, ground := Ground.phase }, { on := 12, ground := Ground.phase }], guard := none }) (v := ?v11) rfl (by kernel_rfl) (by kernel_rfl) (by kernel_rfl) (fun _ _ _ h => h) (Or.inl ⟨by rfl, ?hy11⟩) (by assumption) ?rest11
              case hy11 => (intro w hSw; (try dsimp only at hSw); go_simp <;> with_reducible rfl)
              try simp only [Act.put, List.setIfInBounds_toArray, List.set_cons_zero, List.set_cons_succ]
              refine wpAnyH_take (i := 14) (oi := { dst := some 59, op := Op.fieldAddr 45 (Operand.tmp 58) 1, type := 0, pos := "law.go:156", after := #[{ on := 13, ground := Ground.data }, { on := 0, ground := Ground.phase }, { on := 1, ground := Ground.phase }, { on := 2, ground := Ground.phase }, { on := 3, ground := Ground.phase }, { on := 4, ground := Ground.phase }, { on := 5, ground := Ground.phase }, { on := 6, ground := Ground.phase }, { on := 7, ground := Ground.phase }, { on := 8, ground := Ground.phase }, { on := 9, ground := Ground.phase }, { on := 10, ground := Ground.phase }, { on := 11, ground := Ground.phase }, { on := 12, ground := Ground.phase }], guard := none }) (v := ?v12) rfl (by kernel_rfl) (by kernel_rfl) (by kernel_rfl) (fun _ _ _ h => h) (Or.inl ⟨by rfl, ?hy12⟩) (by assumption) ?rest12
              case hy12 => (intro w hSw; (try dsimp only at hSw); go_simp <;> with_reducible rfl)
              try simp only [Act.put, List.setIfInBounds_toArray, List.set_cons_zero, List.set_cons_succ]
              refine wpAnyH_ready (rs := [15]) (by kernel_rfl) (by simp) (AllReadyH.cons (o := { dst := none, op := Op.store 43 (Operand.tmp 59) (Operand.tmp 57), type := 0, pos := "law.go:156", after := #[{ on := 14, ground := Ground.data }, { on := 12, ground := Ground.data }, { on := 12, ground := Ground.chain }, { on := 0, ground := Ground.phase }, { on := 1, ground := Ground.phase }, { on := 2, ground := Ground.phase }, { on := 3, ground := Ground.phase }, { on := 4, ground := Ground.phase }, { on := 5, ground := Ground.phase }, { on := 6, ground := Ground.phase }, { on := 7, ground := Ground.phase }, { on := 8, ground := Ground.phase }, { on := 9, ground := Ground.phase }, { on := 10, ground := Ground.phase }, { on := 11, ground := Ground.phase }, { on := 12, ground := Ground.phase }], guard := none }) rfl (fun K hK => ?_) (AllReadyH.nil))
              go_simp
              refine hK.out _ _ trivial (fun hHeld => ?_)
              clear hK K
              try simp only [Act.put, List.setIfInBounds_toArray, List.set_cons_zero, List.set_cons_succ]
              refine wpAnyH_done (by kernel_rfl) ?_ _
              go_wp2_with fail
              go_roundw
              case rel => exact HX.out
              case measure => simp [RowKit.intOf]; omega
            · refine step_append_ex ?_ (.tmp 51) (.tmp 54) _ _ ?_ _ _ ?_ ?_ (fun a b => a = _ ∧ b = w3) ⟨_, w3, run1, rfl, rfl⟩ ?_
              · rfl
              · rfl
              · rfl
              · rfl
              rintro _ _ ⟨rfl, rfl⟩
              refine hK.out _ _ trivial (fun hHeld => ?_)
              clear hK K
              try simp only [Act.put, List.setIfInBounds_toArray, List.set_cons_zero, List.set_cons_succ]
              refine wpAnyH_ready (rs := [4, 11]) (by kernel_rfl) (by simp) (AllReadyH.cons (o := { dst := some 49, op := Op.load 43 (Operand.tmp 48), type := 43, pos := "law.go:156", after := #[{ on := 3, ground := Ground.data }], guard := none }) rfl (fun K hK => ?_) (AllReadyH.cons (o := { dst := some 56, op := Op.buildSlice 43 2 #[(0, Operand.tmp 50), (1, Operand.tmp 55)], type := 43, pos := "law.go:156", after := #[{ on := 5, ground := Ground.data }, { on := 10, ground := Ground.data }], guard := none }) rfl (fun K hK => ?_) (AllReadyH.nil)))
              · go_simp
                refine hK.out _ _ trivial (fun hHeld => ?_)
                clear hK K
                try simp only [Act.put, List.setIfInBounds_toArray, List.set_cons_zero, List.set_cons_succ]
                refine wpAnyH_ready (rs := [11]) (by kernel_rfl) (by simp) (AllReadyH.cons (o := { dst := some 56, op := Op.buildSlice 43 2 #[(0, Operand.tmp 50), (1, Operand.tmp 55)], type := 43, pos := "law.go:156", after := #[{ on := 5, ground := Ground.data }, { on := 10, ground := Ground.data }], guard := none }) rfl (fun K hK => ?_) (AllReadyH.nil))
                go_simp
                refine hK.out _ _ trivial (fun hHeld => ?_)
                clear hK K
                try simp only [Act.put, List.setIfInBounds_toArray, List.set_cons_zero, List.set_cons_succ]
                refine wpAnyH_ready (rs := [12]) (by kernel_rfl) (by simp) (AllReadyH.cons (o := { dst := some 57, op := Op.call { callee := Callee.builtin Builtin.append, args := #[Operand.tmp 49, Operand.tmp 56], argTypes := #[43, 43] }, type := 43, pos := "law.go:156", after := #[{ on := 4, ground := Ground.data }, { on := 11, ground := Ground.data }, { on := 10, ground := Ground.chain }], guard := none }) rfl (fun K hK => ?_) (AllReadyH.nil))
                refine step_append_ex ?_ (.tmp 49) (.tmp 56) _ _ ?_ _ _ ?_ ?_ (fun a b => a = _ ∧ b = w5) ⟨_, w5, run2, rfl, rfl⟩ ?_
                · rfl
                · rfl
                · rfl
                · rfl
                rintro _ _ ⟨rfl, rfl⟩
                refine hK.out _ _ trivial (fun hHeld => ?_)
                clear hK K
                try simp only [Act.put, List.setIfInBounds_toArray, List.set_cons_zero, List.set_cons_succ]
                refine wpAnyH_take (i := 13) (oi := { dst := some 58, op := Op.nilCheck (Operand.tmp 45), type := 0, pos := "law.go:156", after := #[{ on := 0, ground := Ground.data }, { on := 0, ground := Ground.phase }, { on := 1, ground := Ground.phase }, { on := 2, ground := Ground.phase }, { on := 3, ground := Ground.phase }, { on := 4, ground := Ground.phase }, { on := 5, ground := Ground.phase }, { on := 6, ground := Ground.phase }, { on := 7, ground := Ground.phase }, { on := 8, ground := Ground.phase }, { on := 9, ground := Ground.phase }, { on := 10, ground := Ground.phase }, { on := 11, ground := Ground.phase }, { on := 12, ground := Ground.phase }], guard := none }) (v := ?v13) rfl (by kernel_rfl) (by kernel_rfl) (by kernel_rfl) (fun _ _ _ h => h) (Or.inl ⟨by rfl, ?hy13⟩) (by assumption) ?rest13
                case hy13 => (intro w hSw; (try dsimp only at hSw); go_simp <;> with_reducible rfl)
                try simp only [Act.put, List.setIfInBounds_toArray, List.set_cons_zero, List.set_cons_succ]
                refine wpAnyH_take (i := 14) (oi := { dst := some 59, op := Op.fieldAddr 45 (Operand.tmp 58) 1, type := 0, pos := "law.go:156", after := #[{ on := 13, ground := Ground.data }, { on := 0, ground := Ground.phase }, { on := 1, ground := Ground.phase }, { on := 2, ground := Ground.phase }, { on := 3, ground := Ground.phase }, { on := 4, ground := Ground.phase }, { on := 5, ground := Ground.phase }, { on := 6, ground := Ground.phase }, { on := 7, ground := Ground.phase }, { on := 8, ground := Ground.phase }, { on := 9, ground := Ground.phase }, { on := 10, ground := Ground.phase }, { on := 11, ground := Ground.phase }, { on := 12, ground := Ground.phase }], guard := none }) (v := ?v14) rfl (by kernel_rfl) (by kernel_rfl) (by kernel_rfl) (fun _ _ _ h => h) (Or.inl ⟨by rfl, ?hy14⟩) (by assumption) ?rest14
                case hy14 => (intro w hSw; (try dsimp only at hSw); go_simp <;> with_reducible rfl)
                try simp only [Act.put, List.setIfInBounds_toArray, List.set_cons_zero, List.set_cons_succ]
                refine wpAnyH_ready (rs := [15]) (by kernel_rfl) (by simp) (AllReadyH.cons (o := { dst := none, op := Op.store 43 (Operand.tmp 59) (Operand.tmp 57), type := 0, pos := "law.go:156", after := #[{ on := 14, ground := Ground.data }, { on := 12, ground := Ground.data }, { on := 12, ground := Ground.chain }, { on := 0, ground := Ground.phase }, { on := 1, ground := Ground.phase }, { on := 2, ground := Ground.phase }, { on := 3, ground := Ground.phase }, { on := 4, ground := Ground.phase }, { on := 5, ground := Ground.phase }, { on := 6, ground := Ground.phase }, { on := 7, ground := Ground.phase }, { on := 8, ground := Ground.phase }, { on := 9, ground := Ground.phase }, { on := 10, ground := Ground.phase }, { on := 11, ground := Ground.phase }, { on := 12, ground := Ground.phase }], guard := none }) rfl (fun K hK => ?_) (AllReadyH.nil))
                go_simp
                refine hK.out _ _ trivial (fun hHeld => ?_)
                clear hK K
                try simp only [Act.put, List.setIfInBounds_toArray, List.set_cons_zero, List.set_cons_succ]
                refine wpAnyH_done (by kernel_rfl) ?_ _
                go_wp2_with fail
                go_roundw
                case rel => exact HX.out
                case measure => simp [RowKit.intOf]; omega
              · go_simp
                refine hK.out _ _ trivial (fun hHeld => ?_)
                clear hK K
                try simp only [Act.put, List.setIfInBounds_toArray, List.set_cons_zero, List.set_cons_succ]
                refine wpAnyH_ready (rs := [4]) (by kernel_rfl) (by simp) (AllReadyH.cons (o := { dst := some 49, op := Op.load 43 (Operand.tmp 48), type := 43, pos := "law.go:156", after := #[{ on := 3, ground := Ground.data }], guard := none }) rfl (fun K hK => ?_) (AllReadyH.nil))
                go_simp
                refine hK.out _ _ trivial (fun hHeld => ?_)
                clear hK K
                try simp only [Act.put, List.setIfInBounds_toArray, List.set_cons_zero, List.set_cons_succ]
                refine wpAnyH_ready (rs := [12]) (by kernel_rfl) (by simp) (AllReadyH.cons (o := { dst := some 57, op := Op.call { callee := Callee.builtin Builtin.append, args := #[Operand.tmp 49, Operand.tmp 56], argTypes := #[43, 43] }, type := 43, pos := "law.go:156", after := #[{ on := 4, ground := Ground.data }, { on := 11, ground := Ground.data }, { on := 10, ground := Ground.chain }], guard := none }) rfl (fun K hK => ?_) (AllReadyH.nil))
                refine step_append_ex ?_ (.tmp 49) (.tmp 56) _ _ ?_ _ _ ?_ ?_ (fun a b => a = _ ∧ b = w5) ⟨_, w5, run2, rfl, rfl⟩ ?_
                · rfl
                · rfl
                · rfl
                · rfl
                rintro _ _ ⟨rfl, rfl⟩
                refine hK.out _ _ trivial (fun hHeld => ?_)
                clear hK K
                try simp only [Act.put, List.setIfInBounds_toArray, List.set_cons_zero, List.set_cons_succ]
                refine wpAnyH_take (i := 13) (oi := { dst := some 58, op := Op.nilCheck (Operand.tmp 45), type := 0, pos := "law.go:156", after := #[{ on := 0, ground := Ground.data }, { on := 0, ground := Ground.phase }, { on := 1, ground := Ground.phase }, { on := 2, ground := Ground.phase }, { on := 3, ground := Ground.phase }, { on := 4, ground := Ground.phase }, { on := 5, ground := Ground.phase }, { on := 6, ground := Ground.phase }, { on := 7, ground := Ground.phase }, { on := 8, ground := Ground.phase }, { on := 9, ground := Ground.phase }, { on := 10, ground := Ground.phase }, { on := 11, ground := Ground.phase }, { on := 12, ground := Ground.phase }], guard := none }) (v := ?v15) rfl (by kernel_rfl) (by kernel_rfl) (by kernel_rfl) (fun _ _ _ h => h) (Or.inl ⟨by rfl, ?hy15⟩) (by assumption) ?rest15
                case hy15 => (intro w hSw; (try dsimp only at hSw); go_simp <;> with_reducible rfl)
                try simp only [Act.put, List.setIfInBounds_toArray, List.set_cons_zero, List.set_cons_succ]
                refine wpAnyH_take (i := 14) (oi := { dst := some 59, op := Op.fieldAddr 45 (Operand.tmp 58) 1, type := 0, pos := "law.go:156", after := #[{ on := 13, ground := Ground.data }, { on := 0, ground := Ground.phase }, { on := 1, ground := Ground.phase }, { on := 2, ground := Ground.phase }, { on := 3, ground := Ground.phase }, { on := 4, ground := Ground.phase }, { on := 5, ground := Ground.phase }, { on := 6, ground := Ground.phase }, { on := 7, ground := Ground.phase }, { on := 8, ground := Ground.phase }, { on := 9, ground := Ground.phase }, { on := 10, ground := Ground.phase }, { on := 11, ground := Ground.phase }, { on := 12, ground := Ground.phase }], guard := none }) (v := ?v16) rfl (by kernel_rfl) (by kernel_rfl) (by kernel_rfl) (fun _ _ _ h => h) (Or.inl ⟨by rfl, ?hy16⟩) (by assumption) ?rest16
                case hy16 => (intro w hSw; (try dsimp only at hSw); go_simp <;> with_reducible rfl)
                try simp only [Act.put, List.setIfInBounds_toArray, List.set_cons_zero, List.set_cons_succ]
                refine wpAnyH_ready (rs := [15]) (by kernel_rfl) (by simp) (AllReadyH.cons (o := { dst := none, op := Op.store 43 (Operand.tmp 59) (Operand.tmp 57), type := 0, pos := "law.go:156", after := #[{ on := 14, ground := Ground.data }, { on := 12, ground := Ground.data }, { on := 12, ground := Ground.chain }, { on := 0, ground := Ground.phase }, { on := 1, ground := Ground.phase }, { on := 2, ground := Ground.phase }, { on := 3, ground := Ground.phase }, { on := 4, ground := Ground.phase }, { on := 5, ground := Ground.phase }, { on := 6, ground := Ground.phase }, { on := 7, ground := Ground.phase }, { on := 8, ground := Ground.phase }, { on := 9, ground := Ground.phase }, { on := 10, ground := Ground.phase }, { on := 11, ground := Ground.phase }, { on := 12, ground := Ground.phase }], guard := none }) rfl (fun K hK => ?_) (AllReadyH.nil))
                go_simp
                refine hK.out _ _ trivial (fun hHeld => ?_)
                clear hK K
                try simp only [Act.put, List.setIfInBounds_toArray, List.set_cons_zero, List.set_cons_succ]
                refine wpAnyH_done (by kernel_rfl) ?_ _
                go_wp2_with fail
                go_roundw
                case rel => exact HX.out
                case measure => simp [RowKit.intOf]; omega
    · obtain rfl : k = ex.length := by omega
      have hr2 := hI.r2
      rw [fm_all] at hr2
      have hr2' : F 2 = ⟨32, 5, .slice pe ex.length ce, ex.length, (ex.map (setE (E.length / 2))).flatMap elC⟩ := by
        rw [hr2]
        unfold elR
        rw [List.length_map]
      obtain ⟨pa2, ca2, pA, cA, p3, c3, w3, p5, c5, w5, eva, -, ⟨k0, k1, k3, k4, k5, k5f⟩, run1, run2, hBel, F6, h6, hF6⟩ := keepE hI.b (by decide) hr2' (by omega) (by omega)
      injection eva with eva _ eva2
      subst eva eva2
      have HX : Hid (Below B w (w5.setCell ⟨B, 0, none⟩ (.slice p5 (E.length + 2) c5)) ∧ ∃ f' E' A', BK (w5.setCell ⟨B, 0, none⟩ (.slice p5 (E.length + 2) c5)) B f' E' A' ∧ E'.length = E.length + 2 ∧ A'.length = A.length + 2 * ex.length) := Hid.mkT ⟨hI.bel.trans hBel, F6, _, _, h6, by rw [List.length_append]; rfl, hI.l⟩
      clear h6 hF6 hBel hI hr2 hr2' hat hm
      go_wp2_with fail
      refine wp_region_held_drew (S := fun _ => True) (by kernel_rfl) trivial (fun hHeld => ?_)
      refine wpAnyH_take (i := 0) (oi := { dst := some 65, op := Op.move (Operand.tmp 0), type := 41, pos := "law.go:159", after := #[], guard := none }) (v := ?v17) rfl (by kernel_rfl) (by kernel_rfl) (by kernel_rfl) (fun _ _ _ h => h) (Or.inl ⟨by rfl, ?hy17⟩) (by assumption) ?rest17
      case hy17 => (intro w hSw; (try dsimp only at hSw); go_simp <;> with_reducible rfl)
      try simp only [Act.put, List.setIfInBounds_toArray, List.set_cons_zero, List.set_cons_succ]
      refine wpAnyH_take (i := 1) (oi := { dst := some 66, op := Op.move (Operand.tmp 0), type := 41, pos := "law.go:159", after := #[], guard := none }) (v := ?v18) rfl (by kernel_rfl) (by kernel_rfl) (by kernel_rfl) (fun _ _ _ h => h) (Or.inl ⟨by rfl, ?hy18⟩) (by assumption) ?rest18
      case hy18 => (intro w hSw; (try dsimp only at hSw); go_simp <;> with_reducible rfl)
      try simp only [Act.put, List.setIfInBounds_toArray, List.set_cons_zero, List.set_cons_succ]
      refine wpAnyH_take (i := 2) (oi := { dst := some 67, op := Op.nilCheck (Operand.tmp 66), type := 0, pos := "law.go:159", after := #[{ on := 1, ground := Ground.data }], guard := none }) (v := ?v19) rfl (by kernel_rfl) (by kernel_rfl) (by kernel_rfl) (fun _ _ _ h => h) (Or.inl ⟨by rfl, ?hy19⟩) (by assumption) ?rest19
      case hy19 => (intro w hSw; (try dsimp only at hSw); go_simp <;> with_reducible rfl)
      try simp only [Act.put, List.setIfInBounds_toArray, List.set_cons_zero, List.set_cons_succ]
      refine wpAnyH_take (i := 3) (oi := { dst := some 68, op := Op.fieldAddr 45 (Operand.tmp 67) 0, type := 0, pos := "law.go:159", after := #[{ on := 2, ground := Ground.data }], guard := none }) (v := ?v20) rfl (by kernel_rfl) (by kernel_rfl) (by kernel_rfl) (fun _ _ _ h => h) (Or.inl ⟨by rfl, ?hy20⟩) (by assumption) ?rest20
      case hy20 => (intro w hSw; (try dsimp only at hSw); go_simp <;> with_reducible rfl)
      try simp only [Act.put, List.setIfInBounds_toArray, List.set_cons_zero, List.set_cons_succ]
      refine wpAnyH_take (i := 5) (oi := { dst := some 70, op := Op.move (Operand.tmp 1), type := 24, pos := "law.go:159", after := #[], guard := none }) (v := ?v21) rfl (by kernel_rfl) (by kernel_rfl) (by kernel_rfl) (fun _ _ _ h => h) (Or.inl ⟨by rfl, ?hy21⟩) (by assumption) ?rest21
      case hy21 => (intro w hSw; (try dsimp only at hSw); go_simp <;> with_reducible rfl)
      try simp only [Act.put, List.setIfInBounds_toArray, List.set_cons_zero, List.set_cons_succ]
      refine wpAnyH_take (i := 6) (oi := { dst := some 71, op := Op.move (Operand.tmp 1), type := 24, pos := "law.go:159", after := #[], guard := none }) (v := ?v22) rfl (by kernel_rfl) (by kernel_rfl) (by kernel_rfl) (fun _ _ _ h => h) (Or.inl ⟨by rfl, ?hy22⟩) (by assumption) ?rest22
      case hy22 => (intro w hSw; (try dsimp only at hSw); go_simp <;> with_reducible rfl)
      try simp only [Act.put, List.setIfInBounds_toArray, List.set_cons_zero, List.set_cons_succ]
      refine wpAnyH_take (i := 7) (oi := { dst := some 72, op := Op.move (Operand.tmp 4), type := 9, pos := "law.go:159", after := #[], guard := none }) (v := ?v23) rfl (by kernel_rfl) (by kernel_rfl) (by kernel_rfl) (fun _ _ _ h => h) (Or.inl ⟨by rfl, ?hy23⟩) (by assumption) ?rest23
      case hy23 => (intro w hSw; (try dsimp only at hSw); go_simp <;> with_reducible rfl)
      try simp only [Act.put, List.setIfInBounds_toArray, List.set_cons_zero, List.set_cons_succ]
      refine wpAnyH_take (i := 8) (oi := { dst := some 73, op := Op.build 32 #[(1, Operand.tmp 72)], type := 32, pos := "law.go:159", after := #[{ on := 7, ground := Ground.data }], guard := none }) (v := ?v24) rfl (by kernel_rfl) (by kernel_rfl) (by kernel_rfl) (fun _ _ _ h => h) (Or.inl ⟨by rfl, ?hy24⟩) (by assumption) ?rest24
      case hy24 => (intro w hSw; (try dsimp only at hSw); go_simp <;> with_reducible rfl)
      try simp only [Act.put, List.setIfInBounds_toArray, List.set_cons_zero, List.set_cons_succ]
      refine wpAnyH_ready (rs := [4, 9]) (by kernel_rfl) (by simp) (AllReadyH.cons (o := { dst := some 69, op := Op.load 42 (Operand.tmp 68), type := 42, pos := "law.go:159", after := #[{ on := 3, ground := Ground.data }], guard := none }) rfl (fun K hK => ?_) (AllReadyH.cons (o := { dst := some 74, op := Op.buildSlice 24 1 #[(0, Operand.tmp 73)], type := 24, pos := "law.go:159", after := #[{ on := 8, ground := Ground.data }], guard := none }) rfl (fun K hK => ?_) (AllReadyH.nil)))
      · go_simp
        refine hK.out _ _ trivial (fun hHeld => ?_)
        clear hK K
        try simp only [Act.put, List.setIfInBounds_toArray, List.set_cons_zero, List.set_cons_succ]
        refine wpAnyH_ready (rs := [9]) (by kernel_rfl) (by simp) (AllReadyH.cons (o := { dst := some 74, op := Op.buildSlice 24 1 #[(0, Operand.tmp 73)], type := 24, pos := "law.go:159", after := #[{ on := 8, ground := Ground.data }], guard := none }) rfl (fun K hK => ?_) (AllReadyH.nil))
        go_simp
        refine hK.out _ _ trivial (fun hHeld => ?_)
        clear hK K
        try simp only [Act.put, List.setIfInBounds_toArray, List.set_cons_zero, List.set_cons_succ]
        refine wpAnyH_ready (rs := [10]) (by kernel_rfl) (by simp) (AllReadyH.cons (o := { dst := some 75, op := Op.call { callee := Callee.builtin Builtin.append, args := #[Operand.tmp 71, Operand.tmp 74], argTypes := #[24, 24] }, type := 24, pos := "law.go:159", after := #[{ on := 6, ground := Ground.data }, { on := 9, ground := Ground.data }], guard := none }) rfl (fun K hK => ?_) (AllReadyH.nil))
        refine step_append_ex ?_ (.tmp 71) (.tmp 74) _ _ ?_ _ _ ?_ ?_ (fun a b => a = _ ∧ b = w3) ⟨_, w3, run1, rfl, rfl⟩ ?_
        · rfl
        · rfl
        · rfl
        · rfl
        rintro _ _ ⟨rfl, rfl⟩
        refine hK.out _ _ trivial (fun hHeld => ?_)
        clear hK K
        try simp only [Act.put, List.setIfInBounds_toArray, List.set_cons_zero, List.set_cons_succ]
        refine wpAnyH_ready (rs := [11]) (by kernel_rfl) (by simp) (AllReadyH.cons (o := { dst := some 76, op := Op.buildSlice 42 2 #[(0, Operand.tmp 70), (1, Operand.tmp 75)], type := 42, pos := "law.go:159", after := #[{ on := 5, ground := Ground.data }, { on := 10, ground := Ground.data }], guard := none }) rfl (fun K hK => ?_) (AllReadyH.nil))
        go_simp
        refine hK.out _ _ trivial (fun hHeld => ?_)
        clear hK K
        try simp only [Act.put, List.setIfInBounds_toArray, List.set_cons_zero, List.set_cons_succ]
        refine wpAnyH_ready (rs := [12]) (by kernel_rfl) (by simp) (AllReadyH.cons (o := { dst := some 77, op := Op.call { callee := Callee.builtin Builtin.append, args := #[Operand.tmp 69, Operand.tmp 76], argTypes := #[42, 42] }, type := 42, pos := "law.go:159", after := #[{ on := 4, ground := Ground.data }, { on := 11, ground := Ground.data }, { on := 10, ground := Ground.chain }], guard := none }) rfl (fun K hK => ?_) (AllReadyH.nil))
        refine step_append_ex ?_ (.tmp 69) (.tmp 76) _ _ ?_ _ _ ?_ ?_ (fun a b => a = _ ∧ b = w5) ⟨_, w5, run2, rfl, rfl⟩ ?_
        · rfl
        · rfl
        · rfl
        · rfl
        rintro _ _ ⟨rfl, rfl⟩
        refine hK.out _ _ trivial (fun hHeld => ?_)
        clear hK K
        try simp only [Act.put, List.setIfInBounds_toArray, List.set_cons_zero, List.set_cons_succ]
        refine wpAnyH_take (i := 13) (oi := { dst := some 78, op := Op.nilCheck (Operand.tmp 65), type := 0, pos := "law.go:159", after := #[{ on := 0, ground := Ground.data }, { on := 0, ground := Ground.phase }, { on := 1, ground := Ground.phase }, { on := 2, ground := Ground.phase }, { on := 3, ground := Ground.phase }, { on := 4, ground := Ground.phase }, { on := 5, ground := Ground.phase }, { on := 6, ground := Ground.phase }, { on := 7, ground := Ground.phase }, { on := 8, ground := Ground.phase }, { on := 9, ground := Ground.phase }, { on := 10, ground := Ground.phase }, { on := 11, ground := Ground.phase }, { on := 12, ground := Ground.phase }], guard := none }) (v := ?v25) rfl (by kernel_rfl) (by kernel_rfl) (by kernel_rfl) (fun _ _ _ h => h) (Or.inl ⟨by rfl, ?hy25⟩) (by assumption) ?rest25
        case hy25 => (intro w hSw; (try dsimp only at hSw); go_simp <;> with_reducible rfl)
        try simp only [Act.put, List.setIfInBounds_toArray, List.set_cons_zero, List.set_cons_succ]
        refine wpAnyH_take (i := 14) (oi := { dst := some 79, op := Op.fieldAddr 45 (Operand.tmp 78) 0, type := 0, pos := "law.go:159", after := #[{ on := 13, ground := Ground.data }, { on := 0, ground := Ground.phase }, { on := 1, ground := Ground.phase }, { on := 2, ground := Ground.phase }, { on := 3, ground := Ground.phase }, { on := 4, ground := Ground.phase }, { on := 5, ground := Ground.phase }, { on := 6, ground := Ground.phase }, { on := 7, ground := Ground.phase }, { on := 8, ground := Ground.phase }, { on := 9, ground := Ground.phase }, { on := 10, ground := Ground.phase }, { on := 11, ground := Ground.phase }, { on := 12, ground := Ground.phase }], guard := none }) (v := ?v26) rfl (by kernel_rfl) (by kernel_rfl) (by kernel_rfl) (fun _ _ _ h => h) (Or.inl ⟨by rfl, ?hy26⟩) (by assumption) ?rest26
        case hy26 => (intro w hSw; (try dsimp only at hSw); go_simp <;> with_reducible rfl)
        try simp only [Act.put, List.setIfInBounds_toArray, List.set_cons_zero, List.set_cons_succ]
        refine wpAnyH_ready (rs := [15]) (by kernel_rfl) (by simp) (AllReadyH.cons (o := { dst := none, op := Op.store 42 (Operand.tmp 79) (Operand.tmp 77), type := 0, pos := "law.go:159", after := #[{ on := 14, ground := Ground.data }, { on := 12, ground := Ground.data }, { on := 12, ground := Ground.chain }, { on := 0, ground := Ground.phase }, { on := 1, ground := Ground.phase }, { on := 2, ground := Ground.phase }, { on := 3, ground := Ground.phase }, { on := 4, ground := Ground.phase }, { on := 5, ground := Ground.phase }, { on := 6, ground := Ground.phase }, { on := 7, ground := Ground.phase }, { on := 8, ground := Ground.phase }, { on := 9, ground := Ground.phase }, { on := 10, ground := Ground.phase }, { on := 11, ground := Ground.phase }, { on := 12, ground := Ground.phase }], guard := none }) rfl (fun K hK => ?_) (AllReadyH.nil))
        go_simp
        refine hK.out _ _ trivial (fun hHeld => ?_)
        clear hK K
        try simp only [Act.put, List.setIfInBounds_toArray, List.set_cons_zero, List.set_cons_succ]
        refine wpAnyH_done (by kernel_rfl) ?_ _
        go_wp2_with fail
        go_end0
        exact ⟨rfl, HX.out⟩
      · go_simp
        refine hK.out _ _ trivial (fun hHeld => ?_)
        clear hK K
        try simp only [Act.put, List.setIfInBounds_toArray, List.set_cons_zero, List.set_cons_succ]
        refine wpAnyH_ready (rs := [4, 10]) (by kernel_rfl) (by simp) (AllReadyH.cons (o := { dst := some 69, op := Op.load 42 (Operand.tmp 68), type := 42, pos := "law.go:159", after := #[{ on := 3, ground := Ground.data }], guard := none }) rfl (fun K hK => ?_) (AllReadyH.cons (o := { dst := some 75, op := Op.call { callee := Callee.builtin Builtin.append, args := #[Operand.tmp 71, Operand.tmp 74], argTypes := #[24, 24] }, type := 24, pos := "law.go:159", after := #[{ on := 6, ground := Ground.data }, { on := 9, ground := Ground.data }], guard := none }) rfl (fun K hK => ?_) (AllReadyH.nil)))
        · go_simp
          refine hK.out _ _ trivial (fun hHeld => ?_)
          clear hK K
          try simp only [Act.put, List.setIfInBounds_toArray, List.set_cons_zero, List.set_cons_succ]
          refine wpAnyH_ready (rs := [10]) (by kernel_rfl) (by simp) (AllReadyH.cons (o := { dst := some 75, op := Op.call { callee := Callee.builtin Builtin.append, args := #[Operand.tmp 71, Operand.tmp 74], argTypes := #[24, 24] }, type := 24, pos := "law.go:159", after := #[{ on := 6, ground := Ground.data }, { on := 9, ground := Ground.data }], guard := none }) rfl (fun K hK => ?_) (AllReadyH.nil))
          refine step_append_ex ?_ (.tmp 71) (.tmp 74) _ _ ?_ _ _ ?_ ?_ (fun a b => a = _ ∧ b = w3) ⟨_, w3, run1, rfl, rfl⟩ ?_
          · rfl
          · rfl
          · rfl
          · rfl
          rintro _ _ ⟨rfl, rfl⟩
          refine hK.out _ _ trivial (fun hHeld => ?_)
          clear hK K
          try simp only [Act.put, List.setIfInBounds_toArray, List.set_cons_zero, List.set_cons_succ]
          refine wpAnyH_ready (rs := [11]) (by kernel_rfl) (by simp) (AllReadyH.cons (o := { dst := some 76, op := Op.buildSlice 42 2 #[(0, Operand.tmp 70), (1, Operand.tmp 75)], type := 42, pos := "law.go:159", after := #[{ on := 5, ground := Ground.data }, { on := 10, ground := Ground.data }], guard := none }) rfl (fun K hK => ?_) (AllReadyH.nil))
          go_simp
          refine hK.out _ _ trivial (fun hHeld => ?_)
          clear hK K
          try simp only [Act.put, List.setIfInBounds_toArray, List.set_cons_zero, List.set_cons_succ]
          refine wpAnyH_ready (rs := [12]) (by kernel_rfl) (by simp) (AllReadyH.cons (o := { dst := some 77, op := Op.call { callee := Callee.builtin Builtin.append, args := #[Operand.tmp 69, Operand.tmp 76], argTypes := #[42, 42] }, type := 42, pos := "law.go:159", after := #[{ on := 4, ground := Ground.data }, { on := 11, ground := Ground.data }, { on := 10, ground := Ground.chain }], guard := none }) rfl (fun K hK => ?_) (AllReadyH.nil))
          refine step_append_ex ?_ (.tmp 69) (.tmp 76) _ _ ?_ _ _ ?_ ?_ (fun a b => a = _ ∧ b = w5) ⟨_, w5, run2, rfl, rfl⟩ ?_
          · rfl
          · rfl
          · rfl
          · rfl
          rintro _ _ ⟨rfl, rfl⟩
          refine hK.out _ _ trivial (fun hHeld => ?_)
          clear hK K
          try simp only [Act.put, List.setIfInBounds_toArray, List.set_cons_zero, List.set_cons_succ]
          refine wpAnyH_take (i := 13) (oi := { dst := some 78, op := Op.nilCheck (Operand.tmp 65), type := 0, pos := "law.go:159", after := #[{ on := 0, ground := Ground.data }, { on := 0, ground := Ground.phase }, { on := 1, ground := Ground.phase }, { on := 2, ground := Ground.phase }, { on := 3, ground := Ground.phase }, { on := 4, ground := Ground.phase }, { on := 5, ground := Ground.phase }, { on := 6, ground := Ground.phase }, { on := 7, ground := Ground.phase }, { on := 8, ground := Ground.phase }, { on := 9, ground := Ground.phase }, { on := 10, ground := Ground.phase }, { on := 11, ground := Ground.phase }, { on := 12, ground := Ground.phase }], guard := none }) (v := ?v27) rfl (by kernel_rfl) (by kernel_rfl) (by kernel_rfl) (fun _ _ _ h => h) (Or.inl ⟨by rfl, ?hy27⟩) (by assumption) ?rest27
          case hy27 => (intro w hSw; (try dsimp only at hSw); go_simp <;> with_reducible rfl)
          try simp only [Act.put, List.setIfInBounds_toArray, List.set_cons_zero, List.set_cons_succ]
          refine wpAnyH_take (i := 14) (oi := { dst := some 79, op := Op.fieldAddr 45 (Operand.tmp 78) 0, type := 0, pos := "law.go:159", after := #[{ on := 13, ground := Ground.data }, { on := 0, ground := Ground.phase }, { on := 1, ground := Ground.phase }, { on := 2, ground := Ground.phase }, { on := 3, ground := Ground.phase }, { on := 4, ground := Ground.phase }, { on := 5, ground := Ground.phase }, { on := 6, ground := Ground.phase }, { on := 7, ground := Ground.phase }, { on := 8, ground := Ground.phase }, { on := 9, ground := Ground.phase }, { on := 10, ground := Ground.phase }, { on := 11, ground := Ground.phase }, { on := 12, ground := Ground.phase }], guard := none }) (v := ?v28) rfl (by kernel_rfl) (by kernel_rfl) (by kernel_rfl) (fun _ _ _ h => h) (Or.inl ⟨by rfl, ?hy28⟩) (by assumption) ?rest28
          case hy28 => (intro w hSw; (try dsimp only at hSw); go_simp <;> with_reducible rfl)
          try simp only [Act.put, List.setIfInBounds_toArray, List.set_cons_zero, List.set_cons_succ]
          refine wpAnyH_ready (rs := [15]) (by kernel_rfl) (by simp) (AllReadyH.cons (o := { dst := none, op := Op.store 42 (Operand.tmp 79) (Operand.tmp 77), type := 0, pos := "law.go:159", after := #[{ on := 14, ground := Ground.data }, { on := 12, ground := Ground.data }, { on := 12, ground := Ground.chain }, { on := 0, ground := Ground.phase }, { on := 1, ground := Ground.phase }, { on := 2, ground := Ground.phase }, { on := 3, ground := Ground.phase }, { on := 4, ground := Ground.phase }, { on := 5, ground := Ground.phase }, { on := 6, ground := Ground.phase }, { on := 7, ground := Ground.phase }, { on := 8, ground := Ground.phase }, { on := 9, ground := Ground.phase }, { on := 10, ground := Ground.phase }, { on := 11, ground := Ground.phase }, { on := 12, ground := Ground.phase }], guard := none }) rfl (fun K hK => ?_) (AllReadyH.nil))
          go_simp
          refine hK.out _ _ trivial (fun hHeld => ?_)
          clear hK K
          try simp only [Act.put, List.setIfInBounds_toArray, List.set_cons_zero, List.set_cons_succ]
          refine wpAnyH_done (by kernel_rfl) ?_ _
          go_wp2_with fail
          go_end0
          exact ⟨rfl, HX.out⟩
        · refine step_append_ex ?_ (.tmp 71) (.tmp 74) _ _ ?_ _ _ ?_ ?_ (fun a b => a = _ ∧ b = w3) ⟨_, w3, run1, rfl, rfl⟩ ?_
          · rfl
          · rfl
          · rfl
          · rfl
          rintro _ _ ⟨rfl, rfl⟩
          refine hK.out _ _ trivial (fun hHeld => ?_)
          clear hK K
          try simp only [Act.put, List.setIfInBounds_toArray, List.set_cons_zero, List.set_cons_succ]
          refine wpAnyH_ready (rs := [4, 11]) (by kernel_rfl) (by simp) (AllReadyH.cons (o := { dst := some 69, op := Op.load 42 (Operand.tmp 68), type := 42, pos := "law.go:159", after := #[{ on := 3, ground := Ground.data }], guard := none }) rfl (fun K hK => ?_) (AllReadyH.cons (o := { dst := some 76, op := Op.buildSlice 42 2 #[(0, Operand.tmp 70), (1, Operand.tmp 75)], type := 42, pos := "law.go:159", after := #[{ on := 5, ground := Ground.data }, { on := 10, ground := Ground.data }], guard := none }) rfl (fun K hK => ?_) (AllReadyH.nil)))
          · go_simp
            refine hK.out _ _ trivial (fun hHeld => ?_)
            clear hK K
            try simp only [Act.put, List.setIfInBounds_toArray, List.set_cons_zero, List.set_cons_succ]
            refine wpAnyH_ready (rs := [11]) (by kernel_rfl) (by simp) (AllReadyH.cons (o := { dst := some 76, op := Op.buildSlice 42 2 #[(0, Operand.tmp 70), (1, Operand.tmp 75)], type := 42, pos := "law.go:159", after := #[{ on := 5, ground := Ground.data }, { on := 10, ground := Ground.data }], guard := none }) rfl (fun K hK => ?_) (AllReadyH.nil))
            go_simp
            refine hK.out _ _ trivial (fun hHeld => ?_)
            clear hK K
            try simp only [Act.put, List.setIfInBounds_toArray, List.set_cons_zero, List.set_cons_succ]
            refine wpAnyH_ready (rs := [12]) (by kernel_rfl) (by simp) (AllReadyH.cons (o := { dst := some 77, op := Op.call { callee := Callee.builtin Builtin.append, args := #[Operand.tmp 69, Operand.tmp 76], argTypes := #[42, 42] }, type := 42, pos := "law.go:159", after := #[{ on := 4, ground := Ground.data }, { on := 11, ground := Ground.data }, { on := 10, ground := Ground.chain }], guard := none }) rfl (fun K hK => ?_) (AllReadyH.nil))
            refine step_append_ex ?_ (.tmp 69) (.tmp 76) _ _ ?_ _ _ ?_ ?_ (fun a b => a = _ ∧ b = w5) ⟨_, w5, run2, rfl, rfl⟩ ?_
            · rfl
            · rfl
            · rfl
            · rfl
            rintro _ _ ⟨rfl, rfl⟩
            refine hK.out _ _ trivial (fun hHeld => ?_)
            clear hK K
            try simp only [Act.put, List.setIfInBounds_toArray, List.set_cons_zero, List.set_cons_succ]
            refine wpAnyH_take (i := 13) (oi := { dst := some 78, op := Op.nilCheck (Operand.tmp 65), type := 0, pos := "law.go:159", after := #[{ on := 0, ground := Ground.data }, { on := 0, ground := Ground.phase }, { on := 1, ground := Ground.phase }, { on := 2, ground := Ground.phase }, { on := 3, ground := Ground.phase }, { on := 4, ground := Ground.phase }, { on := 5, ground := Ground.phase }, { on := 6, ground := Ground.phase }, { on := 7, ground := Ground.phase }, { on := 8, ground := Ground.phase }, { on := 9, ground := Ground.phase }, { on := 10, ground := Ground.phase }, { on := 11, ground := Ground.phase }, { on := 12, ground := Ground.phase }], guard := none }) (v := ?v29) rfl (by kernel_rfl) (by kernel_rfl) (by kernel_rfl) (fun _ _ _ h => h) (Or.inl ⟨by rfl, ?hy29⟩) (by assumption) ?rest29
            case hy29 => (intro w hSw; (try dsimp only at hSw); go_simp <;> with_reducible rfl)
            try simp only [Act.put, List.setIfInBounds_toArray, List.set_cons_zero, List.set_cons_succ]
            refine wpAnyH_take (i := 14) (oi := { dst := some 79, op := Op.fieldAddr 45 (Operand.tmp 78) 0, type := 0, pos := "law.go:159", after := #[{ on := 13, ground := Ground.data }, { on := 0, ground := Ground.phase }, { on := 1, ground := Ground.phase }, { on := 2, ground := Ground.phase }, { on := 3, ground := Ground.phase }, { on := 4, ground := Ground.phase }, { on := 5, ground := Ground.phase }, { on := 6, ground := Ground.phase }, { on := 7, ground := Ground.phase }, { on := 8, ground := Ground.phase }, { on := 9, ground := Ground.phase }, { on := 10, ground := Ground.phase }, { on := 11, ground := Ground.phase }, { on := 12, ground := Ground.phase }], guard := none }) (v := ?v30) rfl (by kernel_rfl) (by kernel_rfl) (by kernel_rfl) (fun _ _ _ h => h) (Or.inl ⟨by rfl, ?hy30⟩) (by assumption) ?rest30
            case hy30 => (intro w hSw; (try dsimp only at hSw); go_simp <;> with_reducible rfl)
            try simp only [Act.put, List.setIfInBounds_toArray, List.set_cons_zero, List.set_cons_succ]
            refine wpAnyH_ready (rs := [15]) (by kernel_rfl) (by simp) (AllReadyH.cons (o := { dst := none, op := Op.store 42 (Operand.tmp 79) (Operand.tmp 77), type := 0, pos := "law.go:159", after := #[{ on := 14, ground := Ground.data }, { on := 12, ground := Ground.data }, { on := 12, ground := Ground.chain }, { on := 0, ground := Ground.phase }, { on := 1, ground := Ground.phase }, { on := 2, ground := Ground.phase }, { on := 3, ground := Ground.phase }, { on := 4, ground := Ground.phase }, { on := 5, ground := Ground.phase }, { on := 6, ground := Ground.phase }, { on := 7, ground := Ground.phase }, { on := 8, ground := Ground.phase }, { on := 9, ground := Ground.phase }, { on := 10, ground := Ground.phase }, { on := 11, ground := Ground.phase }, { on := 12, ground := Ground.phase }], guard := none }) rfl (fun K hK => ?_) (AllReadyH.nil))
            go_simp
            refine hK.out _ _ trivial (fun hHeld => ?_)
            clear hK K
            try simp only [Act.put, List.setIfInBounds_toArray, List.set_cons_zero, List.set_cons_succ]
            refine wpAnyH_done (by kernel_rfl) ?_ _
            go_wp2_with fail
            go_end0
            exact ⟨rfl, HX.out⟩
          · go_simp
            refine hK.out _ _ trivial (fun hHeld => ?_)
            clear hK K
            try simp only [Act.put, List.setIfInBounds_toArray, List.set_cons_zero, List.set_cons_succ]
            refine wpAnyH_ready (rs := [4]) (by kernel_rfl) (by simp) (AllReadyH.cons (o := { dst := some 69, op := Op.load 42 (Operand.tmp 68), type := 42, pos := "law.go:159", after := #[{ on := 3, ground := Ground.data }], guard := none }) rfl (fun K hK => ?_) (AllReadyH.nil))
            go_simp
            refine hK.out _ _ trivial (fun hHeld => ?_)
            clear hK K
            try simp only [Act.put, List.setIfInBounds_toArray, List.set_cons_zero, List.set_cons_succ]
            refine wpAnyH_ready (rs := [12]) (by kernel_rfl) (by simp) (AllReadyH.cons (o := { dst := some 77, op := Op.call { callee := Callee.builtin Builtin.append, args := #[Operand.tmp 69, Operand.tmp 76], argTypes := #[42, 42] }, type := 42, pos := "law.go:159", after := #[{ on := 4, ground := Ground.data }, { on := 11, ground := Ground.data }, { on := 10, ground := Ground.chain }], guard := none }) rfl (fun K hK => ?_) (AllReadyH.nil))
            refine step_append_ex ?_ (.tmp 69) (.tmp 76) _ _ ?_ _ _ ?_ ?_ (fun a b => a = _ ∧ b = w5) ⟨_, w5, run2, rfl, rfl⟩ ?_
            · rfl
            · rfl
            · rfl
            · rfl
            rintro _ _ ⟨rfl, rfl⟩
            refine hK.out _ _ trivial (fun hHeld => ?_)
            clear hK K
            try simp only [Act.put, List.setIfInBounds_toArray, List.set_cons_zero, List.set_cons_succ]
            refine wpAnyH_take (i := 13) (oi := { dst := some 78, op := Op.nilCheck (Operand.tmp 65), type := 0, pos := "law.go:159", after := #[{ on := 0, ground := Ground.data }, { on := 0, ground := Ground.phase }, { on := 1, ground := Ground.phase }, { on := 2, ground := Ground.phase }, { on := 3, ground := Ground.phase }, { on := 4, ground := Ground.phase }, { on := 5, ground := Ground.phase }, { on := 6, ground := Ground.phase }, { on := 7, ground := Ground.phase }, { on := 8, ground := Ground.phase }, { on := 9, ground := Ground.phase }, { on := 10, ground := Ground.phase }, { on := 11, ground := Ground.phase }, { on := 12, ground := Ground.phase }], guard := none }) (v := ?v31) rfl (by kernel_rfl) (by kernel_rfl) (by kernel_rfl) (fun _ _ _ h => h) (Or.inl ⟨by rfl, ?hy31⟩) (by assumption) ?rest31
            case hy31 => (intro w hSw; (try dsimp only at hSw); go_simp <;> with_reducible rfl)
            try simp only [Act.put, List.setIfInBounds_toArray, List.set_cons_zero, List.set_cons_succ]
            refine wpAnyH_take (i := 14) (oi := { dst := some 79, op := Op.fieldAddr 45 (Operand.tmp 78) 0, type := 0, pos := "law.go:159", after := #[{ on := 13, ground := Ground.data }, { on := 0, ground := Ground.phase }, { on := 1, ground := Ground.phase }, { on := 2, ground := Ground.phase }, { on := 3, ground := Ground.phase }, { on := 4, ground := Ground.phase }, { on := 5, ground := Ground.phase }, { on := 6, ground := Ground.phase }, { on := 7, ground := Ground.phase }, { on := 8, ground := Ground.phase }, { on := 9, ground := Ground.phase }, { on := 10, ground := Ground.phase }, { on := 11, ground := Ground.phase }, { on := 12, ground := Ground.phase }], guard := none }) (v := ?v32) rfl (by kernel_rfl) (by kernel_rfl) (by kernel_rfl) (fun _ _ _ h => h) (Or.inl ⟨by rfl, ?hy32⟩) (by assumption) ?rest32
            case hy32 => (intro w hSw; (try dsimp only at hSw); go_simp <;> with_reducible rfl)
            try simp only [Act.put, List.setIfInBounds_toArray, List.set_cons_zero, List.set_cons_succ]
            refine wpAnyH_ready (rs := [15]) (by kernel_rfl) (by simp) (AllReadyH.cons (o := { dst := none, op := Op.store 42 (Operand.tmp 79) (Operand.tmp 77), type := 0, pos := "law.go:159", after := #[{ on := 14, ground := Ground.data }, { on := 12, ground := Ground.data }, { on := 12, ground := Ground.chain }, { on := 0, ground := Ground.phase }, { on := 1, ground := Ground.phase }, { on := 2, ground := Ground.phase }, { on := 3, ground := Ground.phase }, { on := 4, ground := Ground.phase }, { on := 5, ground := Ground.phase }, { on := 6, ground := Ground.phase }, { on := 7, ground := Ground.phase }, { on := 8, ground := Ground.phase }, { on := 9, ground := Ground.phase }, { on := 10, ground := Ground.phase }, { on := 11, ground := Ground.phase }, { on := 12, ground := Ground.phase }], guard := none }) rfl (fun K hK => ?_) (AllReadyH.nil))
            go_simp
            refine hK.out _ _ trivial (fun hHeld => ?_)
            clear hK K
            try simp only [Act.put, List.setIfInBounds_toArray, List.set_cons_zero, List.set_cons_succ]
            refine wpAnyH_done (by kernel_rfl) ?_ _
            go_wp2_with fail
            go_end0
            exact ⟨rfl, HX.out⟩
end Go.Proofs.YtchfphakhmifmabGreatDoor
namespace Go.Proofs.YtchfphakhmifmabGreatDoor
open Go.ChangeShapes Go.WideShapes Go.ChangeAt Go.RowKit Go.Shelf Go.Lib

/-- A list of elements in memory of its own, from what there was on. -/
def OwnP (w w' : World) (v : Value) : Prop := ∃ bot vA f sx ex, w.heap.size ≤ bot ∧ bot ≤ w'.heap.size ∧ TR w' bot vA v f sx ex ∧ ex.length ≤ 20000 ∧ ∀ x ∈ ex, x.e.ats.length ≤ 24
theorem OwnP.drewN {w w' : World} {v : Value} (h : OwnP w w' v) (m : Nat) : OwnP w (w'.drewN m) v := by
  obtain ⟨bot, vA, f, sx, ex, h1, h2, h3, h4⟩ := h
  exact ⟨bot, vA, f, sx, ex, h1, h2, h3.same fun _ _ _ => rfl, h4⟩
def nilR : Nat → Rw := fun c => if c = 0 then opR (.slice none 0 0) [] else elR (.slice none 0 0) []
theorem OwnP.nil {w w' : World} (h : w.heap.size ≤ w'.heap.size) : OwnP w w' (.slice none 0 0) := by
  refine ⟨w.heap.size, .slice none 0 0, nilR, [], [], Nat.le_refl _, h, ⟨⟨fun c => ?_, fun c c' _ k hk => ?_⟩, rfl, rfl, fun j o hj => (by cases hj), fun i x hx => (by cases hx)⟩, Nat.zero_le _, fun x hx => (by cases hx)⟩
  · unfold Rw.own nilR
    by_cases h : c = 0
    · rw [if_pos h]; exact World.ownsRow_nil _ _ _ _
    · rw [if_neg h]; exact World.ownsRow_nil _ _ _ _
  · unfold nilR at hk
    by_cases h : c = 0
    · rw [if_pos h] at hk; cases hk
    · rw [if_neg h] at hk; cases hk
theorem Rdr.ownp {W : World} {R bot : Nat} {v : Nat → Value} {s : PSt} (h : Rdr W R bot v s) (h0 : s.op = []) {w : World} (hw : w.heap.size ≤ bot) : OwnP w W (v 6) := by
  obtain ⟨f, sx, ex, hT, hs, he⟩ := h.x
  rw [h0, hide_nil] at he
  refine ⟨bot, v 5, f, sx, ex, hw, h.hB, hT, ?_, fun x hx => ?_⟩
  · have := h.ok.el
    rw [← he, List.length_map] at this
    exact this
  · refine h.ok.al x.e ?_
    rw [← he]
    exact List.mem_map_of_mem hx
def ParseO (w : World) (e : Ending) (w' : World) : Prop := ∃ v a b, e = .returned (.tuple #[v, .int .i64 a, .int .i64 b]) ∧ Below w.heap.size w w' ∧ OwnP w w' v
set_option maxRecDepth 100000 in
set_option maxHeartbeats 4000000 in
theorem Parse_own (s : ByteArray) (w : World) (hE : Env w) (h7 : 7 ≤ w.heap.size) (hs : s.size ≤ 9223372036854775807) :
    Calls Tryz.prog 10 #[.string s] w (ParseO w) := by
  have cT := tokU s w hE h7 hs

  by_cases h1 : er1 s = 0
  · have hn := er1_none h1
    have hLL : LL s = (toksN s).1 := by unfold LL; rw [hn]
    have he2 : er2 s = 0 := by unfold er2; rw [hn]; rfl
    have hts : toksN s = (LL s, none) := by rw [hLL, ← hn]
    have hsm : ∀ t ∈ LL s, t.vl.size ≤ 16777216 := fun t ht => (toks_small hts t.it (List.mem_map_of_mem ht)).2
    have hsq : SeqT false (LL s) := by rw [hLL]; exact toksN_seq s hs
    have hlen : (LL s).length ≤ 1048576 := by rw [hLL]; exact toksN_len s (by omega)
    unfold TokU at cT
    rw [h1, he2] at cT
    have cA : ∀ w1 p c, Below w.heap.size w w1 → IRow w1 p w1.heap.size ((LL s).map Tok.it) → Calls Tryz.prog 26 #[.pointer (some ⟨w1.heap.size, 0, none⟩), .slice p (LL s).length c] (w1.alloc rdrO) (AllPost w1.heap.size (w1.alloc rdrO) (LL s)) := fun w1 p c hb hI =>
      takeAll_any w1.heap.size rdrV (LL s) p c (w1.alloc rdrO) (r7_new w1) rfl rfl rfl (hI.below (bel1 w1 rdrO)) hsq hsm hlen
    unfold ParseO
    unfold AllPost at cA
    cases hz : takeL blankB (LL s) ⟨[], []⟩ with
    | error x =>
      obtain ⟨er, p⟩ := x
      rw [hz] at cA
      dsimp only at cA ⊢
      generalize LL s = L at cT cA
      clear hts hsm hsq hlen hLL hn he2 h1 hz
      go_enter Tryz.func10, Tryz.ntmps10
      go_wp2_with (first
        | (go_at_call 25; refine cT.mono ?_; rintro _ w1 ⟨p1, c1, rfl, hb1, hI1⟩; have cA1 := cA w1 p1 c1 hb1 hI1; clear cT cA hI1)
        | (go_at_call 26; refine cA1.mono ?_; rintro _ w2 ⟨rfl, hK2, v2, h72, hv4, hv3, hne⟩; have cF := finish_bad _ v2 er s.size w2 h72 hv4 hne; have cR := refused_any w1.heap.size v2 er; clear cA1)
        | (go_at_call 27; refine cF.mono ?_; rintro _ w3 ⟨rfl, m, hw3⟩; have h73 : R7 w3 w1.heap.size v2 := (by rw [hw3]; exact h72.drewN m); have HK3 : Hid (Below w.heap.size w w3) := Hid.mkT (hb1.trans ((Kr.bel (w' := w3) (by rw [hw3]; exact ⟨hK2.os, hK2.tape, hK2.output, hK2.size, fun k hk hn => hK2.block k (by rw [World.size_alloc]; omega) hn⟩) rfl).mono hb1.size)); have cR1 := cR w3 h73 hv4; rw [decide_eq_true hne] at cR1; have e4 := h73.c 4 (by decide); have e3 := h73.c 3 (by decide); rw [hv4] at e4; rw [hv3] at e3; clear hw3)
        | (go_at_call 28; refine cR1.mono ?_; rintro _ w4 ⟨rfl, m4, hw4⟩; have f4 : w4.cell? ⟨w1.heap.size, 4, none⟩ = some (.int .i64 (er : Int)) := (by rw [hw4]; exact e4); have f3 : w4.cell? ⟨w1.heap.size, 3, none⟩ = some (.int .i64 (p : Int)) := (by rw [hw4]; exact e3); have HK4 : Hid (Below w.heap.size w w4) := Hid.mkT (by rw [hw4]; exact ⟨HK3.out.os, HK3.out.tape, HK3.out.output, HK3.out.size, HK3.out.block⟩); clear hw4))
      go_quiet (fail)
      go_wp2_with fail
      exact bodyPost_ret (v := .tuple #[.slice none 0 0, .int .i64 (er : Int), .int .i64 (p : Int)]) (by simp [results, Tryz.results10, go_sem]) rfl ⟨_, _, _, rfl, ⟨HK4.out.os, HK4.out.tape, HK4.out.output, HK4.out.size, HK4.out.block⟩, OwnP.nil HK4.out.size⟩
    | ok t =>
      have hp := takeL_ok _ hz POk.nil
      rw [hz] at cA
      dsimp only at cA ⊢
      generalize LL s = L at cT cA
      clear hts hsm hsq hlen hLL hn he2 h1 hz
      by_cases h0 : endE t = 0
      · have h0op : t.op = [] := by
          unfold endE at h0
          by_cases hc : t.op ≠ []
          · rw [if_pos hc] at h0; cases h0
          · exact Classical.not_not.1 hc
        go_enter Tryz.func10, Tryz.ntmps10
        go_wp2_with (first
          | (go_at_call 25; refine cT.mono ?_; rintro _ w1 ⟨p1, c1, rfl, hb1, hI1⟩; have cA1 := cA w1 p1 c1 hb1 hI1; clear cT cA hI1)
          | (go_at_call 26; refine cA1.mono ?_; rintro _ w2 ⟨rfl, hK2, v2, bot, hbot, hr2, hv4⟩; have cF := finish_ok _ bot v2 t s.size w2 hr2 hv4; clear cA1)
          | (go_at_call 27; refine cF.mono ?_; rintro _ w3 ⟨rfl, hK3, v3, h73, hv4, hv3, hrr⟩; have hr3 := hrr h0; have HK3 : Hid (Below w.heap.size w w3) := Hid.mkT (hb1.trans ((Kr.bel (w' := w3) ⟨hK3.os.trans hK2.os, hK3.tape.trans hK2.tape, hK3.output.trans hK2.output, Nat.le_trans hK2.size hK3.size, fun k hk hn => (hK3.block k (by rw [World.size_alloc] at hbot; omega) hn).trans (hK2.block k (by rw [World.size_alloc]; omega) hn)⟩ rfl).mono hb1.size)); rw [h0] at hv4; have cR1 := refused_any w1.heap.size v3 0 w3 h73 hv4; rw [show decide ((0 : Nat) ≠ 0) = false from rfl] at cR1; obtain ⟨pe, ce, h6, -⟩ := hr3.erow h0op; have hER : OwnP w w3 (.slice pe t.es.length ce) := h6 ▸ hr3.ownp h0op (by rw [World.size_alloc] at hbot; have := hb1.size; omega); have e6 := h73.c 6 (by decide); rw [h6] at e6; clear hrr)
          | (go_at_call 28; refine cR1.mono ?_; rintro _ w4 ⟨rfl, m4, hw4⟩; have f6 : w4.cell? ⟨w1.heap.size, 6, none⟩ = some (.slice pe t.es.length ce) := (by rw [hw4]; exact e6); have HK4 : Hid (Below w.heap.size w w4 ∧ OwnP w w4 (.slice pe t.es.length ce)) := Hid.mkT (by rw [hw4]; exact ⟨⟨HK3.out.os, HK3.out.tape, HK3.out.output, HK3.out.size, HK3.out.block⟩, hER.drewN m4⟩); clear hw4))
        exact bodyPost_ret (v := .tuple #[.slice pe t.es.length ce, .int .i64 0, .int .i64 0]) (by simp [results, Tryz.results10, go_sem]) rfl ⟨_, _, _, rfl, HK4.out.1, HK4.out.2⟩
      · go_enter Tryz.func10, Tryz.ntmps10
        go_wp2_with (first
          | (go_at_call 25; refine cT.mono ?_; rintro _ w1 ⟨p1, c1, rfl, hb1, hI1⟩; have cA1 := cA w1 p1 c1 hb1 hI1; clear cT cA hI1)
          | (go_at_call 26; refine cA1.mono ?_; rintro _ w2 ⟨rfl, hK2, v2, bot, hbot, hr2, hv4⟩; have cF := finish_ok _ bot v2 t s.size w2 hr2 hv4; clear cA1)
          | (go_at_call 27; refine cF.mono ?_; rintro _ w3 ⟨rfl, hK3, v3, h73, hv4, hv3, -⟩; have HK3 : Hid (Below w.heap.size w w3) := Hid.mkT (hb1.trans ((Kr.bel (w' := w3) ⟨hK3.os.trans hK2.os, hK3.tape.trans hK2.tape, hK3.output.trans hK2.output, Nat.le_trans hK2.size hK3.size, fun k hk hn => (hK3.block k (by rw [World.size_alloc] at hbot; omega) hn).trans (hK2.block k (by rw [World.size_alloc]; omega) hn)⟩ rfl).mono hb1.size)); have cR1 := refused_any w1.heap.size v3 (endE t) w3 h73 hv4; rw [decide_eq_true h0] at cR1; have e4 := h73.c 4 (by decide); have e3 := h73.c 3 (by decide); rw [hv4] at e4; rw [hv3] at e3)
          | (go_at_call 28; refine cR1.mono ?_; rintro _ w4 ⟨rfl, m4, hw4⟩; have f4 : w4.cell? ⟨w1.heap.size, 4, none⟩ = some (.int .i64 (endE t : Int)) := (by rw [hw4]; exact e4); have f3 : w4.cell? ⟨w1.heap.size, 3, none⟩ = some (.int .i64 (s.size : Int)) := (by rw [hw4]; exact e3); have HK4 : Hid (Below w.heap.size w w4) := Hid.mkT (by rw [hw4]; exact ⟨HK3.out.os, HK3.out.tape, HK3.out.output, HK3.out.size, HK3.out.block⟩); clear hw4))
        go_quiet (fail)
        go_wp2_with fail
        exact bodyPost_ret (v := .tuple #[.slice none 0 0, .int .i64 (endE t : Int), .int .i64 (s.size : Int)]) (by simp [results, Tryz.results10, go_sem]) rfl ⟨_, _, _, rfl, ⟨HK4.out.os, HK4.out.tape, HK4.out.output, HK4.out.size, HK4.out.block⟩, OwnP.nil HK4.out.size⟩
  · unfold ParseO
    unfold TokU at cT
    have z1 : ¬ (er1 s : Int) = 0 := by omega
    have z2 : ((er1 s : Int) == 0) = false := beq_eq_false_iff_ne.2 z1
    have z3 : ((er1 s : Int) != 0) = true := by rw [bne, z2]; rfl
    clear h1
    go_enter Tryz.func10, Tryz.ntmps10
    go_wp2_with (go_at_call 25; refine cT.mono ?_; rintro _ w1 ⟨p1, c1, rfl, hb1, -⟩)
    exact bodyPost_ret (v := .tuple #[.slice none 0 0, .int .i64 (er1 s : Int), .int .i64 (er2 s : Int)]) (by simp [results, Tryz.results10, go_sem]) rfl ⟨_, _, _, rfl, hb1, OwnP.nil hb1.size⟩
end Go.Proofs.YtchfphakhmifmabGreatDoor
namespace Go.Proofs.YtchfphakhmifmabGreatDoor
open Go.ChangeShapes Go.WideShapes Go.ChangeAt Go.RowKit Go.Shelf Go.Lib

/-- Texts in memory, handed in. -/
structure SRow (w : World) (pp : Option Addr) (H : Nat) (ss : List ByteArray) : Prop where
  c : ∀ (i : Nat) (s : ByteArray), ss[i]? = some s → ∃ g o, pp = some ⟨g, o, none⟩ ∧ g < H ∧ w.cell? ⟨g, o + i, none⟩ = some (.string s)
/-- What the first loop has, behind k texts. -/
structure KL (w wr : World) (k : Nat) (F : Nat → Rw) (E A : List Value) : Prop where
  b : BK wr w.heap.size F E A
  e : E.length = 2 * k
  a : A.length ≤ 40000 * k
  bel : Below w.heap.size w wr
set_option maxRecDepth 100000 in
set_option maxHeartbeats 8000000 in
theorem TreeKept_any (pp : Option Addr) (cp : Nat) (ss : List ByteArray) (w : World) (hr : SRow w pp w.heap.size ss) (hE : Env w) (h7 : 7 ≤ w.heap.size) (hs : ∀ s ∈ ss, s.size ≤ 9223372036854775807) (hl : ss.length ≤ 140737488351232) :
    Calls Tryz.prog 5 #[.slice pp ss.length cp] w fun e w' => e = .returned (.bool true) ∧ Below w.heap.size w w' := by
  have Hlaw : Hid (∀ W s, Below w.heap.size w W → s ∈ ss → Calls Tryz.prog 4 #[.string s] W fun e w' => e = .returned (.bool true) ∧ Below W.heap.size W w') := Hid.mkT fun W s hb hm => TreeParses_any s W (hE.below hb h7) (Nat.le_trans h7 hb.size) (hs s hm)
  have Hpar : Hid (∀ W s, Below w.heap.size w W → s ∈ ss → Calls Tryz.prog 10 #[.string s] W (ParseO W)) := Hid.mkT fun W s hb hm => Parse_own s W (hE.below hb h7) (Nat.le_trans h7 hb.size) (hs s hm)
  have h0 : KL w (w.alloc (.cells #[.slice none 0 0, .slice none 0 0] 45)) 0 nilF [] [] := ⟨BK.new w, rfl, Nat.le_refl _, bel1 w _⟩
  clear hE h7 hs
  go_enter Tryz.func5, Tryz.ntmps5
  go_wp2_with fail
  go_loopw [4] (fun i wr => ∃ (k : Nat) (F : Nat → Rw) (E A : List Value), k ≤ ss.length ∧ k ≤ 8 ∧ i = .int .i64 (k : Int) ∧ KL w wr k F E A) (fun i _ => 8 - (RowKit.intOf i).toNat)
  case atStart => exact ⟨0, _, _, _, Nat.zero_le _, Nat.zero_le _, rfl, h0⟩
  case round =>
    obtain ⟨k, F, E, A, hk, hk8, rfl, hK⟩ := hrel
    clear h0
    by_cases hlt : k < ss.length ∧ k < 8
    · obtain ⟨s, hs⟩ : ∃ s, ss[k]? = some s := ⟨ss[k], List.getElem?_eq_getElem hlt.1⟩
      have hmem := List.mem_of_getElem? hs
      obtain ⟨g, o, rfl, hg, hc⟩ := hr.c k s hs
      have d0 := (hK.bel.cell (p := ⟨g, o + k, none⟩) hg).trans hc
      have t1 : (k : Int) < ss.length := by omega
      have t2 : (k : Int) < 8 := by omega
      have hlE : E.length ≤ 1000 := by have := hK.e; omega
      have hlA : A.length ≤ 900000 := by have := hK.a; omega
      have c1 := (Hlaw.out wr s hK.bel hmem).mono (R' := fun e w1 => e = .returned (.bool true) ∧ KL w w1 k F E A ∧ w1.cell? ⟨g, o + k, none⟩ = some (.string s)) fun e w1 ⟨h1, h2⟩ => ⟨h1, ⟨hK.b.below h2, hK.e, hK.a, hK.bel.trans (h2.mono hK.bel.size)⟩, ((hK.bel.trans (h2.mono hK.bel.size)).cell (p := ⟨g, o + k, none⟩) hg).trans hc⟩
      have HK : Hid (∀ W w', KL w W k F E A → Below W.heap.size W w' → KL w w' k F E A ∧ w'.cell? ⟨g, o + k, none⟩ = some (.string s)) := Hid.mkT fun W w' hW h2 => ⟨⟨hW.b.below h2, hW.e, hW.a, hW.bel.trans (h2.mono hW.bel.size)⟩, ((hW.bel.trans (h2.mono hW.bel.size)).cell (p := ⟨g, o + k, none⟩) hg).trans hc⟩
      clear hK hs hr hc
      go_wp2_with (first
        | (go_at_call 4; refine c1.mono ?_; rintro _ w1 ⟨rfl, hK1, d1⟩; have c2 := holds_any w.heap.size F E A w1 hK1.b (by omega) (by omega); clear c1)
        | (go_at_call 14; refine c2.mono ?_; rintro _ w2 ⟨rfl, hb2⟩; obtain ⟨hK2, d2⟩ := HK.out _ _ hK1 hb2; have c3 := Hpar.out w2 s hK2.bel hmem; clear c2 hb2)
        | (go_at_call 10; refine c3.mono ?_; rintro _ w3 ⟨v3, a3, b3, rfl, hb3, bot, vA, f', sx, ex, h1, h2, hT, hx1, hx2⟩; obtain ⟨p3, q3, hv3⟩ := own_sl hT.own1; subst hv3; obtain ⟨q1, q2, q3⟩ := hK2.b.parsed hb3 h1 hT; have c4 := keep_any w.heap.size _ E A _ ex w3 q1 q2 q3 hx1 hx2 hlE hlA; have hb3' := hK2.bel.trans (hb3.mono hK2.bel.size); have he := hK2.e; have ha := hK2.a; clear c3 q1 q2 q3 hT)
        | (go_at_call 15; refine c4.mono ?_; rintro _ w4 ⟨rfl, hb4, F', E', A', h5, h6, h7⟩; have hK4 : KL w w4 (k + 1) F' E' A' := ⟨h5, by omega, by omega, hb3'.trans hb4⟩; clear c4))
      go_roundw
      case rel => exact ⟨k + 1, F', E', A', by omega, by omega, by go_num, hK4⟩
      case measure => simp [RowKit.intOf]; omega
    · clear Hpar
      by_cases hk1 : k < ss.length
      · have t0 : ¬ (k : Int) < 8 := by omega
        have t1 : (k : Int) < ss.length := by omega
        go_wp2_with fail
        go_loopw [9] (fun j wr => ∃ q : Nat, q ≤ ss.length ∧ q ≤ 8 ∧ j = .int .i64 (q : Int) ∧ KL w wr k F E A) (fun j _ => 8 - (RowKit.intOf j).toNat)
        case atStart => exact ⟨0, Nat.zero_le _, Nat.zero_le _, rfl, hK⟩
        case round =>
          obtain ⟨q, hq, hq8, rfl, hK'⟩ := hrel
          clear hK
          by_cases hql : q < ss.length ∧ q < 8
          · obtain ⟨s, hs⟩ : ∃ s, ss[q]? = some s := ⟨ss[q], List.getElem?_eq_getElem hql.1⟩
            have hmem := List.mem_of_getElem? hs
            obtain ⟨g, o, rfl, hg, hc⟩ := hr.c q s hs
            have d0 := (hK'.bel.cell (p := ⟨g, o + q, none⟩) hg).trans hc
            have t1 : (q : Int) < ss.length := by omega
            have t2 : (q : Int) < 8 := by omega
            have c1 := (Hlaw.out wr s hK'.bel hmem).mono (R' := fun e w1 => e = .returned (.bool true) ∧ KL w w1 k F E A) fun e w1 ⟨h1, h2⟩ => ⟨h1, hK'.b.below h2, hK'.e, hK'.a, hK'.bel.trans (h2.mono hK'.bel.size)⟩
            clear hK' hs hr hc
            go_wp2_with (go_at_call 4; refine c1.mono ?_; rintro _ w1 ⟨rfl, hK1⟩)
            go_roundw
            case rel => exact ⟨q + 1, by omega, by omega, by go_num, hK1⟩
            case measure => simp [RowKit.intOf]; omega
          · have hE1 : E.length ≤ 1000000 := by have := hK'.e; omega
            have hA1 : A.length ≤ 1000000 := by have := hK'.a; omega
            have c2 := (holds_any w.heap.size F E A wr hK'.b hE1 hA1).mono (R' := fun e w1 => e = .returned (.bool true) ∧ Below w.heap.size w w1) fun e w1 ⟨h1, h2⟩ => ⟨h1, hK'.bel.trans (h2.mono hK'.bel.size)⟩
            clear hK' hr
            by_cases hq1 : q < ss.length
            · obtain rfl : q = 8 := by omega
              have t1 : (8 : Int) < ss.length := by omega
              go_wp2_with (go_at_call 14; refine c2.mono ?_; rintro _ w1 ⟨rfl, hb1⟩)
              go_ret
              exact ⟨rfl, hb1⟩
            · obtain rfl : q = ss.length := by omega
              go_wp2_with (go_at_call 14; refine c2.mono ?_; rintro _ w1 ⟨rfl, hb1⟩)
              go_ret
              exact ⟨rfl, hb1⟩
      · have t0 : ¬ (k : Int) < ss.length := by omega
        go_wp2_with fail
        go_loopw [9] (fun j wr => ∃ q : Nat, q ≤ ss.length ∧ q ≤ 8 ∧ j = .int .i64 (q : Int) ∧ KL w wr k F E A) (fun j _ => 8 - (RowKit.intOf j).toNat)
        case atStart => exact ⟨0, Nat.zero_le _, Nat.zero_le _, rfl, hK⟩
        case round =>
          obtain ⟨q, hq, hq8, rfl, hK'⟩ := hrel
          clear hK
          by_cases hql : q < ss.length ∧ q < 8
          · obtain ⟨s, hs⟩ : ∃ s, ss[q]? = some s := ⟨ss[q], List.getElem?_eq_getElem hql.1⟩
            have hmem := List.mem_of_getElem? hs
            obtain ⟨g, o, rfl, hg, hc⟩ := hr.c q s hs
            have d0 := (hK'.bel.cell (p := ⟨g, o + q, none⟩) hg).trans hc
            have t1 : (q : Int) < ss.length := by omega
            have t2 : (q : Int) < 8 := by omega
            have c1 := (Hlaw.out wr s hK'.bel hmem).mono (R' := fun e w1 => e = .returned (.bool true) ∧ KL w w1 k F E A) fun e w1 ⟨h1, h2⟩ => ⟨h1, hK'.b.below h2, hK'.e, hK'.a, hK'.bel.trans (h2.mono hK'.bel.size)⟩
            clear hK' hs hr hc
            go_wp2_with (go_at_call 4; refine c1.mono ?_; rintro _ w1 ⟨rfl, hK1⟩)
            go_roundw
            case rel => exact ⟨q + 1, by omega, by omega, by go_num, hK1⟩
            case measure => simp [RowKit.intOf]; omega
          · have hE1 : E.length ≤ 1000000 := by have := hK'.e; omega
            have hA1 : A.length ≤ 1000000 := by have := hK'.a; omega
            have c2 := (holds_any w.heap.size F E A wr hK'.b hE1 hA1).mono (R' := fun e w1 => e = .returned (.bool true) ∧ Below w.heap.size w w1) fun e w1 ⟨h1, h2⟩ => ⟨h1, hK'.bel.trans (h2.mono hK'.bel.size)⟩
            clear hK' hr
            by_cases hq1 : q < ss.length
            · obtain rfl : q = 8 := by omega
              have t1 : (8 : Int) < ss.length := by omega
              go_wp2_with (go_at_call 14; refine c2.mono ?_; rintro _ w1 ⟨rfl, hb1⟩)
              go_ret
              exact ⟨rfl, hb1⟩
            · obtain rfl : q = ss.length := by omega
              go_wp2_with (go_at_call 14; refine c2.mono ?_; rintro _ w1 ⟨rfl, hb1⟩)
              go_ret
              exact ⟨rfl, hb1⟩
end Go.Proofs.YtchfphakhmifmabGreatDoor

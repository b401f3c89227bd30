/- The law's own: num, sameSteps; Text. -/
import Derived.Test.YtfikmlckcbnppaaDoorLpO
import Derived.Test.YtfikmlckcbnppaaDoorLpD
import Derived.Test.YtfikmlckcbnppaaDoorLpF
namespace Go.Proofs.YtfikmlckcbnppaaDoor
open Go.ChangeShapes Go.WideShapes Go.ChangeAt Go.RowKit Go.Shelf Go.Maps

theorem lx_ld {P : Program} {ops : Array Oper} {C : World → Prop} {Q : Exit → Act → World → Prop} {d : Option Tmp} {t ty : TypeId} {x : Operand} {ps : String} {af : Array Edge} {gd : Option (Nat × Bool)} {r : List Oper} {a : Act} {w : World} {p v : Value}
    (hl : ∀ W, C W → (Instr.loadAt t p).run P W = .ok v W) (hx : a.eval x = p) (hw : Region.wanted ⟨d, .load t x, ty, ps, af, gd⟩ (yielded ops a.tmps) = true) (h : Lx P ops C Q r (a.put d v) w) : Lx P ops C Q (⟨d, .load t x, ty, ps, af, gd⟩ :: r) a w :=
  lx_read hw rfl fun K hK => ⟨v, fun W hW => by
    unfold Oper.quietAt execOp
    simp only [hx, hl W hW, Sem.run_bind, Result.andThen_ok, Sem.run_pure]
    exact ⟨rfl, rfl⟩, hK _ h⟩
theorem num_any (n : Int) (w : World) : Calls Tryd.prog 9 #[.int .i64 n] w fun e w' => e = .returned (.int .i64 n) ∧ w' = w := by
  go_enter Tryd.func9, Tryd.ntmps9
  go_wp2_with fail
  go_ret
  exact ⟨rfl, rfl⟩
theorem Text_any (l : List (ByteArray × Int)) (pp : Option Addr) (cp : Nat) (w : World) (hr : SpRow w pp w.heap.size l) (hl : l.length ≤ 1048576) (hsz : ∀ x ∈ l, x.1.size ≤ 1048576) (htab : ∀ W, Below w.heap.size w W → Tab W) : Calls Tryd.prog 8 #[.slice pp l.length cp] w fun e w' => TE w l e w' := by
  have cT : Calls Tryd.prog 19 #[.slice pp l.length cp] w fun e w' => ∃ t n, e = .returned (.tuple #[.string t, .int .i64 n]) ∧ Hid (TE w l (.returned (.tuple #[.string t, .int .i64 n])) w') := (textOf_any l pp cp w hr hl hsz htab).mono fun e w' h => by
    obtain ⟨h0, ⟨t, h1, rfl⟩ | ⟨h1, rfl⟩⟩ := h
    · exact ⟨t, 0, rfl, ⟨h0, .inl ⟨t, h1, rfl⟩⟩⟩
    · exact ⟨_, 210, rfl, ⟨h0, .inr ⟨h1, rfl⟩⟩⟩
  clear hr hl hsz htab
  go_enter Tryd.func8, Tryd.ntmps8
  go_wp2_with (go_at_call 19; refine cT.mono ?_; rintro _ w1 ⟨t, n, rfl, hF⟩)
  exact bodyPost_ret (by simp [results, Tryd.results8, go_sem]) rfl hF.out
theorem SpRow.ld {w : World} {pp : Option Addr} {H : Nat} {l : List (ByteArray × Int)} (h : SpRow w pp H l) {i : Nat} {x : ByteArray × Int} (hx : l[i]? = some x) : ∃ g o, pp = some ⟨g, o, none⟩ ∧ g < H ∧ ∀ W, Below H w W → (Instr.loadAt 46 (.pointer (some ⟨g, o + i * 2, none⟩))).run Tryd.prog W = .ok (spV x) W := by
  obtain ⟨g, o, e, hg, -, -⟩ := h.c i x hx
  refine ⟨g, o, e, hg, fun W hW => ?_⟩
  obtain ⟨g', o', e', -, h1, h2⟩ := (h.below hW).c i x hx
  rw [e] at e'
  cases e'
  obtain ⟨d, hu, hd⟩ := undSp
  refine run_loadAt_mid W g (o + i * 2) 46 (spC x).toList d (fun k v hk => ?_) hu hd infoSp
  have h2i : k < 2 := (List.getElem?_eq_some_iff.1 hk).1
  have : k = 0 ∨ k = 1 := by omega
  rcases this with rfl | rfl
  · cases hk; exact h1
  · cases hk; exact h2
set_option maxRecDepth 20000 in
set_option maxHeartbeats 2000000 in
theorem sameSteps_any (l : List (ByteArray × Int)) (pa pb : Option Addr) (ca cb : Nat) (w : World) (ha : SpRow w pa w.heap.size l) (hb : SpRow w pb w.heap.size l) (hl : l.length ≤ 1048576) : Calls Tryd.prog 10 #[.slice pa l.length ca, .slice pb l.length cb] w fun e w' => e = .returned (.bool true) ∧ Below w.heap.size w w' := by
  replace ha : Hid _ := ⟨ha⟩
  replace hb : Hid _ := ⟨hb⟩
  go_enter Tryd.func10, Tryd.ntmps10
  go_wp2_with fail
  go_loopw [5] (fun q wr => ∃ j : Nat, j ≤ l.length ∧ q = .int .i64 (j : Int) ∧ Hid (Below w.heap.size w wr)) (fun q _ => l.length - (RowKit.intOf q).toNat)
  case atStart => exact ⟨0, Nat.zero_le _, by go_num, ⟨Below.refl _ _⟩⟩
  case round =>
    obtain ⟨j, hj, rfl, hI⟩ := hrel
    by_cases hlt : j < l.length
    · obtain ⟨x, hx⟩ : ∃ x, l[j]? = some x := ⟨l[j], List.getElem?_eq_getElem hlt⟩
      obtain ⟨g1, o1, rfl, -, h1⟩ := ha.out.ld hx
      obtain ⟨g2, o2, rfl, -, h2⟩ := hb.out.ld hx
      obtain ⟨p, p0, pN, pE, l1, l2⟩ : ∃ p : World → Prop, p wr.drew ∧ Nonempty (CW p) ∧ (∀ W, p W → Hid (Below w.heap.size w W)) ∧ Hid (∀ W, (∃ θ : CW p, W = θ.w) → (Instr.loadAt 46 (.pointer (some ⟨g1, o1 + j * 2, none⟩))).run Tryd.prog W = .ok (spV x) W) ∧ Hid (∀ W, (∃ θ : CW p, W = θ.w) → (Instr.loadAt 46 (.pointer (some ⟨g2, o2 + j * 2, none⟩))).run Tryd.prog W = .ok (spV x) W) :=
        ⟨fun V => Below w.heap.size w V, hI.out.drew, ⟨⟨_, hI.out⟩⟩, fun _ h => ⟨h⟩, ⟨by rintro _ ⟨θ, rfl⟩; exact h1 _ θ.h⟩, ⟨by rintro _ ⟨θ, rfl⟩; exact h2 _ θ.h⟩⟩
      have hji : (j : Int) < l.length := by omega
      have hjb : (j : Int) ≤ 1048576 := by omega
      have hF := pE _ p0
      clear h1 h2 hI pE
      obtain ⟨nm, n⟩ := x
      go_wp2_with fail
      refine wp_region_pp p [0, 1, 2, 3, 4, 5, 6, 7, 8] (by kernel_rfl) (by kernel_rfl) (fun _ _ d _ _ h => by cases d <;> exact h) p0 ?_
      simp only [List.filterMap_cons, List.filterMap_nil, List.getElem?_cons_zero, List.getElem?_cons_succ]
      generalize wr.drew = W at p0 hF ⊢
      repeat (first
        | (guard_target =~ Lx _ _ _ _ (Oper.mk _ (Op.load 46 _) _ _ _ _ :: _) _ _; (first | refine lx_ld l1.out rfl (by rfl) ?_ | refine lx_ld l2.out rfl (by rfl) ?_); simp only [pts])
        | (refine lx_one rfl ?_; (first | go_big_quiet_skip | (go_big_quiet_want; go_big_quiet_op; go_big_quiet_on)); refine wpQuiet_nil ?_))
      refine lx_done ?_
      clear l1 l2 p0 pN
      go_wp2_with fail
      go_roundw
      case rel => exact ⟨j + 1, by omega, by go_num, hF⟩
      case measure => simp [RowKit.intOf]; omega
    · obtain rfl : j = l.length := by omega
      have d3 : decide ((l.length : Int) < l.length) = false := by simp
      go_wp2_with fail
      go_ret
      exact ⟨rfl, hI.out⟩
end Go.Proofs.YtfikmlckcbnppaaDoor

/- The law's own helpers: rooms, ints, sameInts, sameRooms, kept. -/
import Derived.Test.YtjdinlgbfpkodaaLPl
namespace Go.Proofs.Ytjdinlgbfpkodaa
open Go.ChangeShapes Go.WideShapes Go.ChangeAt Go.RowKit Go.Shelf

theorem wpList_append_ex {P : Program} {w : World} {ops : Array Oper} {rest : List Oper} {o : Oper} {a : Act} {Q : Exit → Act → World → Prop} (hgd : o.guard = none) (s x : Operand) (t tx : TypeId)
    (ho : o.op = .call { callee := .builtin .append, args := #[s, x], argTypes := #[t, tx] }) (sv xv : Value) (hs : a.eval s = sv) (hx : a.eval x = xv) (Post : Value → World → Prop)
    (hrun : ∃ v w', (∀ ty, (Builtin.append_ #[t, tx] ty #[sv, xv]).run P w = .ok v w') ∧ Post v w')
    (h : ∀ v w', Post v w' → wpList P ops Q rest (a.put o.dst v) w') : wpList P ops Q (o :: rest) a w := by
  obtain ⟨v, w', hr, hp⟩ := hrun
  refine wpList_plain hgd fun _ hK => ?_
  unfold Oper.wp execOp
  simp only [ho, resolve, invoke, builtin, Sem.run_bind, Sem.run_pure, Result.andThen_ok, List.map_toArray, List.map_cons, List.map_nil, hs, hx, hr]
  exact hK _ _ (h v w' hp)
/-- 'append(nil, l...)'. -/
theorem r_cp {W : World} {pp : Option Addr} {H : Nat} {l : List Rm} (ca : Nat) (hA : RmRow W pp H l) (hl : l.length ≤ 8796093021952) :
    ∃ v' w', (∀ ty, (Builtin.append_ #[23, 23] ty #[nilS, .slice pp l.length ca]).run Try.prog W = .ok v' w') ∧ (ROwn w' W.heap.size v' l ∧ Below W.heap.size W w') := by
  cases pp with
  | none =>
    have h0 : l = [] := by
      cases l with
      | nil => rfl
      | cons a r =>
        obtain ⟨g, o, e, _⟩ := hA.c 0 a rfl
        cases e
    subst h0
    obtain ⟨i0, hi, hz, hs, hby⟩ := infoR
    refine ⟨nilS, W, fun ty => ?_, World.ownsRow_nil _ _ _ 2, Below.refl _ _⟩
    have S := Src.ofNil (P := Try.prog) (size := i0.size) W Try.underlying23 ca
    have hln : ∀ w' : World, (Builtin.lenOf (.slice none 0 ca)).run Try.prog w' = .ok 0 w' := S.len
    have hcl : (Builtin.firstCells i0.size 0 (.slice none 0 ca)).run Try.prog W = .ok #[] W := S.cells
    simp only [List.length_nil]
    simp [Builtin.append_, run_underlying Try.underlying23, sizeOf, typeInfo, hi, hln, hcl, -World.alloc_eq]
  | some ad =>
    obtain ⟨v', w', h1, h2, h3, _⟩ := r_ap (al := []) (base := W.heap.size) (v := nilS) ca (World.ownsRow_nil _ _ _ 2) hA (by simp; omega) (Nat.le_refl _)
    exact ⟨v', w', h1, by simpa using h2, ⟨h3.os, h3.tape, h3.output, h3.size, fun k hk => h3.block k hk (fun e => by cases e)⟩⟩
theorem z_cp {W : World} {pp : Option Addr} {H : Nat} {l : List Int} (ca : Nat) (hA : ZRow W pp H l) (hl : l.length ≤ 17592186043904) :
    ∃ v' w', (∀ ty, (Builtin.append_ #[24, 24] ty #[nilS, .slice pp l.length ca]).run Try.prog W = .ok v' w') ∧ (ZOwn w' W.heap.size v' l ∧ Below W.heap.size W w') := by
  cases pp with
  | none =>
    have h0 : l = [] := by
      cases l with
      | nil => rfl
      | cons a r =>
        obtain ⟨g, o, e, _⟩ := hA.c 0 a rfl
        cases e
    subst h0
    obtain ⟨i0, hi, hz, hs, hby⟩ := infoZ
    refine ⟨nilS, W, fun ty => ?_, World.ownsRow_nil _ _ _ 1, Below.refl _ _⟩
    have S := Src.ofNil (P := Try.prog) (size := i0.size) W Try.underlying24 ca
    have hln : ∀ w' : World, (Builtin.lenOf (.slice none 0 ca)).run Try.prog w' = .ok 0 w' := S.len
    have hcl : (Builtin.firstCells i0.size 0 (.slice none 0 ca)).run Try.prog W = .ok #[] W := S.cells
    simp only [List.length_nil]
    simp [Builtin.append_, run_underlying Try.underlying24, sizeOf, typeInfo, hi, hln, hcl, -World.alloc_eq]
  | some ad =>
    obtain ⟨v', w', h1, h2, h3, _⟩ := z_ap (al := []) (base := W.heap.size) (v := nilS) ca (World.ownsRow_nil _ _ _ 1) hA (by simp; omega) (Nat.le_refl _)
    exact ⟨v', w', h1, by simpa using h2, ⟨h3.os, h3.tape, h3.output, h3.size, fun k hk => h3.block k hk (fun e => by cases e)⟩⟩
theorem own_bel {W w' : World} {base : Nat} {ty : TypeId} {s n : Nat} {v : Value} {xs : List Value} (h : W.ownsRow base ty s v n xs) (hg : W.grownBy w' v.ownBlock) (hb : base ≤ W.heap.size) : Below base W w' :=
  ⟨hg.os, hg.tape, hg.output, hg.size, fun k hk => hg.block k (by omega) (fun e => by have := own_lt h e.symm; omega)⟩
/-- A list of one's own with one more behind it, in its spare room. -/
structure RSp (w : World) (base : Nat) (v : Value) (l : List Rm) : Prop where
  x : ∃ g cp, v = .slice (some ⟨g, 0, none⟩) l.length cp ∧ l.length + 1 ≤ cp ∧ base ≤ g ∧ w.ownsRow base 35 2 (.slice (some ⟨g, 0, none⟩) (l.length + 1) cp) (l.length + 1) (rmCells (l ++ [⟨71, 72⟩]))
structure ZSp (w : World) (base : Nat) (v : Value) (l : List Int) : Prop where
  x : ∃ g cp, v = .slice (some ⟨g, 0, none⟩) l.length cp ∧ l.length + 1 ≤ cp ∧ base ≤ g ∧ w.ownsRow base 3 1 (.slice (some ⟨g, 0, none⟩) (l.length + 1) cp) (l.length + 1) ((l ++ [73]).map iV)
set_option maxHeartbeats 2000000 in
theorem rooms_any (l : List Rm) (pp : Option Addr) (cp : Nat) (w : World) (hr : SlR w pp w.heap.size l) (hl : l.length ≤ 8796093021952) :
    Calls Try.prog 11 #[.slice pp l.length cp] w fun r w' => ∃ v, r = .returned v ∧ RSp w' w.heap.size v l ∧ Below w.heap.size w w' := by
  obtain ⟨v1, w1, hrun1, hO1, hB1⟩ := r_cp cp hr.row hl
  obtain ⟨p1, c1, hv1, _⟩ := hO1.shape
  subst hv1
  have hB2 := bel1 w1 (.cells #[.int .i64 71, .int .i64 72] 35)
  have hO2 := own_below hO1 hB2
  obtain ⟨v2, w2, hrun2, hO3, hg3, _⟩ := r_ap (bl := [⟨71, 72⟩]) (ad := ⟨w1.heap.size, 0, none⟩) (H := w1.heap.size + 1) 1 hO2 (RmRow.lit (heap_new w1 _) (Nat.lt_succ_self _)) (by simp; omega) (by have := hB1.size; have := hB2.size; omega)
  have hB3 := own_bel hO2 hg3 (by have := hB1.size; have := hB2.size; omega)
  have HB : Hid (Below w.heap.size w w2) := Hid.mk <| hB1.trans ((hB2.mono hB1.size).trans hB3)
  rcases hO3.2 with ⟨_, h0⟩ | ⟨g, cap, cur, hv2, hb, hg, hn, _⟩
  · simp at h0
  have hn2 : l.length + 1 ≤ cap := by rw [List.length_append] at hn; exact hn
  subst hv2
  have HS : Hid (RSp w2 w.heap.size (.slice (some ⟨g, 0, none⟩) l.length cap) l) := ⟨g, cap, rfl, hn2, hb, by unfold ROwn at hO3; rw [List.length_append] at hO3; exact hO3⟩
  rw [List.length_append, List.length_singleton] at hrun2
  clear hO1 hO2 hO3 hg3 hB1 hB2 hB3 hg hn
  have F1 : Hid (1 = 1) := ⟨rfl⟩
  go_enter Try.func11, Try.ntmps11
  go_wp2_with (at_builtin; first
    | (clear F1; refine (wpList_append_ex (by rfl) _ _ _ _ (by rfl) _ _ (by rfl) (by rfl) (fun a b => a = .slice p1 l.length c1 ∧ b = w1) ⟨_, w1, hrun1, rfl, rfl⟩ ?_); rintro _ _ ⟨rfl, rfl⟩)
    | (refine (wpList_append_ex (by rfl) _ _ _ _ (by rfl) _ _ (by rfl) (by rfl) (fun a b => a = .slice (some ⟨g, 0, none⟩) (l.length + 1) cap ∧ b = w2) ⟨_, w2, hrun2, rfl, rfl⟩ ?_); rintro _ _ ⟨rfl, rfl⟩))
  go_ret
  exact ⟨_, rfl, HS.out, HB.out⟩
set_option maxHeartbeats 2000000 in
theorem ints_any (l : List Int) (pp : Option Addr) (cp : Nat) (w : World) (hr : SlZ w pp w.heap.size l) (hl : l.length ≤ 17592186043904) :
    Calls Try.prog 18 #[.slice pp l.length cp] w fun r w' => ∃ v, r = .returned v ∧ ZSp w' w.heap.size v l ∧ Below w.heap.size w w' := by
  obtain ⟨v1, w1, hrun1, hO1, hB1⟩ := z_cp cp hr.row hl
  obtain ⟨p1, c1, hv1, _⟩ := hO1.shape
  subst hv1
  have hB2 := bel1 w1 (.cells #[.int .i64 73] 3)
  have hO2 := own_below hO1 hB2
  obtain ⟨v2, w2, hrun2, hO3, hg3, _⟩ := z_ap (bl := [73]) (ad := ⟨w1.heap.size, 0, none⟩) (H := w1.heap.size + 1) 1 hO2 (ZRow.lit (heap_new w1 _) (Nat.lt_succ_self _)) (by simp; omega) (by have := hB1.size; have := hB2.size; omega)
  have hB3 := own_bel hO2 hg3 (by have := hB1.size; have := hB2.size; omega)
  have HB : Hid (Below w.heap.size w w2) := Hid.mk <| hB1.trans ((hB2.mono hB1.size).trans hB3)
  rcases hO3.2 with ⟨_, h0⟩ | ⟨g, cap, cur, hv2, hb, hg, hn, _⟩
  · simp at h0
  have hn2 : l.length + 1 ≤ cap := by rw [List.length_append] at hn; exact hn
  subst hv2
  have HS : Hid (ZSp w2 w.heap.size (.slice (some ⟨g, 0, none⟩) l.length cap) l) := ⟨g, cap, rfl, hn2, hb, by unfold ZOwn at hO3; rw [List.length_append] at hO3; exact hO3⟩
  rw [List.length_append, List.length_singleton] at hrun2
  clear hO1 hO2 hO3 hg3 hB1 hB2 hB3 hg hn
  have F1 : Hid (1 = 1) := ⟨rfl⟩
  go_enter Try.func18, Try.ntmps18
  go_wp2_with (at_builtin; first
    | (clear F1; refine (wpList_append_ex (by rfl) _ _ _ _ (by rfl) _ _ (by rfl) (by rfl) (fun a b => a = .slice p1 l.length c1 ∧ b = w1) ⟨_, w1, hrun1, rfl, rfl⟩ ?_); rintro _ _ ⟨rfl, rfl⟩)
    | (refine (wpList_append_ex (by rfl) _ _ _ _ (by rfl) _ _ (by rfl) (by rfl) (fun a b => a = .slice (some ⟨g, 0, none⟩) (l.length + 1) cap ∧ b = w2) ⟨_, w2, hrun2, rfl, rfl⟩ ?_); rintro _ _ ⟨rfl, rfl⟩))
  go_ret
  exact ⟨_, rfl, HS.out, HB.out⟩

theorem num_any (e : Int) (w : World) : Calls Try.prog 12 #[.int .i64 e] w fun r w' => r = .returned (.int .i64 e) ∧ w' = w := by
  go_enter Try.func12, Try.ntmps12
  go_wp2_with fail
  go_ret
  exact ⟨rfl, rfl⟩
theorem drewN_add (w : World) (a b : Nat) : (w.drewN a).drewN b = w.drewN (a + b) := by
  simp
theorem drewN_zero (w : World) : w.drewN 0 = w := rfl
set_option maxHeartbeats 2000000 in
theorem sameInts_self (l : List Int) (pa pb : Option Addr) (ca cb : Nat) (w : World) (ha : ZRow w pa w.heap.size l) (hb : ZRow w pb w.heap.size l) (hl : l.length ≤ 17592186043905) :
    Calls Try.prog 16 #[.slice pa l.length ca, .slice pb l.length cb] w fun r w' => r = .returned (.bool true) ∧ ∃ n, w' = w.drewN n := by
  go_enter Try.func16, Try.ntmps16
  go_wp2_with fail
  go_loopw [5] (fun n wr => ∃ (j d : Nat), j ≤ l.length ∧ n = .int .i64 j ∧ Hid (wr = w.drewN d)) (fun n _ => l.length - (RowKit.intOf n).toNat)
  case atStart => exact ⟨0, 0, Nat.zero_le _, by go_num, ⟨rfl⟩⟩
  case round =>
    obtain ⟨j, d, hj, rfl, hd⟩ := hrel
    by_cases hlt : j < l.length
    · obtain ⟨x, hx⟩ : ∃ x, l[j]? = some x := ⟨l[j], List.getElem?_eq_getElem hlt⟩
      obtain ⟨g, o, rfl, _, q0⟩ := ha.c j x hx
      obtain ⟨g2, o2, rfl, _, q1⟩ := hb.c j x hx
      have r0 : wr.cell? ⟨g, o + j, none⟩ = some (.int .i64 x) := by rw [hd.out]; exact q0
      have r1 : wr.cell? ⟨g2, o2 + j, none⟩ = some (.int .i64 x) := by rw [hd.out]; exact q1
      have hlti : (j : Int) < l.length := by omega
      clear q0 q1 ha hb hx
      go_wp2_with fail
      go_quiet (fail)
      go_wp2_with fail
      go_roundw
      case rel => exact ⟨j + 1, d + nq, by omega, by go_num, ⟨by rw [hd.out]; exact drewN_add _ _ _⟩⟩
      case measure => simp [RowKit.intOf]; omega
    · obtain rfl : j = l.length := by omega
      go_wp2_with fail
      go_ret
      exact ⟨rfl, d, hd.out⟩
set_option maxHeartbeats 2000000 in
theorem sameRooms_self (l : List Rm) (pa pb : Option Addr) (ca cb : Nat) (w : World) (ha : RmRow w pa w.heap.size l) (hb : RmRow w pb w.heap.size l) (hl : l.length ≤ 8796093021953) :
    Calls Try.prog 24 #[.slice pa l.length ca, .slice pb l.length cb] w fun r w' => r = .returned (.bool true) ∧ ∃ n, w' = w.drewN n := by
  go_enter Try.func24, Try.ntmps24
  go_wp2_with fail
  go_loopw [5] (fun n wr => ∃ (j d : Nat), j ≤ l.length ∧ n = .int .i64 j ∧ Hid (wr = w.drewN d)) (fun n _ => l.length - (RowKit.intOf n).toNat)
  case atStart => exact ⟨0, 0, Nat.zero_le _, by go_num, ⟨rfl⟩⟩
  case round =>
    obtain ⟨j, d, hj, rfl, hd⟩ := hrel
    by_cases hlt : j < l.length
    · obtain ⟨x, hx⟩ : ∃ x, l[j]? = some x := ⟨l[j], List.getElem?_eq_getElem hlt⟩
      obtain ⟨g, o, rfl, _, q0, p0⟩ := ha.c j x hx
      obtain ⟨g2, o2, rfl, _, q1, p1⟩ := hb.c j x hx
      have r0 : wr.cell? ⟨g, o + j * 2, none⟩ = some (.int .i64 x.sz) := by rw [hd.out]; exact q0
      have r1 : wr.cell? ⟨g2, o2 + j * 2, none⟩ = some (.int .i64 x.sz) := by rw [hd.out]; exact q1
      have s0 : wr.cell? ⟨g, o + j * 2 + 1, none⟩ = some (.int .i64 x.of) := by rw [hd.out]; exact p0
      have s1 : wr.cell? ⟨g2, o2 + j * 2 + 1, none⟩ = some (.int .i64 x.of) := by rw [hd.out]; exact p1
      have hlti : (j : Int) < l.length := by omega
      clear q0 q1 p0 p1 ha hb hx
      go_wp2_with fail
      go_quiet (fail)
      go_wp2_with fail
      go_roundw
      case rel => exact ⟨j + 1, d + nq, by omega, by go_num, ⟨by rw [hd.out]; exact drewN_add _ _ _⟩⟩
      case measure => simp [RowKit.intOf]; omega
    · obtain rfl : j = l.length := by omega
      go_wp2_with fail
      go_ret
      exact ⟨rfl, d, hd.out⟩
theorem RSp.row {w : World} {base : Nat} {v : Value} {l : List Rm} (h : RSp w base v l) : ∃ g cp, v = .slice (some ⟨g, 0, none⟩) l.length cp ∧ l.length + 1 ≤ cp ∧ base ≤ g ∧ g < w.heap.size ∧ RmRow w (some ⟨g, 0, none⟩) w.heap.size (l ++ [⟨71, 72⟩]) := by
  obtain ⟨g, cp, e, h1, h2, h3⟩ := h.x
  have h4 : ROwn w base (.slice (some ⟨g, 0, none⟩) (l.length + 1) cp) (l ++ [⟨71, 72⟩]) := by unfold ROwn; rw [List.length_append]; exact h3
  obtain ⟨pp, c2, e2, hr⟩ := h4.shape
  injection e2 with e2 _ _
  subst e2
  exact ⟨g, cp, e, h1, h2, (own_lt h3 rfl).2, hr⟩
theorem ZSp.row {w : World} {base : Nat} {v : Value} {l : List Int} (h : ZSp w base v l) : ∃ g cp, v = .slice (some ⟨g, 0, none⟩) l.length cp ∧ l.length + 1 ≤ cp ∧ base ≤ g ∧ g < w.heap.size ∧ ZRow w (some ⟨g, 0, none⟩) w.heap.size (l ++ [73]) := by
  obtain ⟨g, cp, e, h1, h2, h3⟩ := h.x
  have h4 : ZOwn w base (.slice (some ⟨g, 0, none⟩) (l.length + 1) cp) (l ++ [73]) := by unfold ZOwn; rw [List.length_append]; exact h3
  obtain ⟨pp, c2, e2, hr⟩ := h4.shape
  injection e2 with e2 _ _
  subst e2
  exact ⟨g, cp, e, h1, h2, (own_lt h3 rfl).2, hr⟩
theorem RmRow.left {w : World} {pp : Option Addr} {H : Nat} {a b : List Rm} (h : RmRow w pp H (a ++ b)) : RmRow w pp H a :=
  ⟨fun i t ht => h.c i t (by rw [List.getElem?_append_left (List.getElem?_eq_some_iff.1 ht).1]; exact ht)⟩
theorem ZRow.left {w : World} {pp : Option Addr} {H : Nat} {a b : List Int} (h : ZRow w pp H (a ++ b)) : ZRow w pp H a :=
  ⟨fun i t ht => h.c i t (by rw [List.getElem?_append_left (List.getElem?_eq_some_iff.1 ht).1]; exact ht)⟩
theorem RSp.below {w w' : World} {base : Nat} {v : Value} {l : List Rm} (h : RSp w base v l) (hb : Below w.heap.size w w') : RSp w' base v l := by
  obtain ⟨g, cp, e, h1, h2, h3⟩ := h.x
  exact ⟨g, cp, e, h1, h2, own_below h3 hb⟩
theorem ZSp.below {w w' : World} {base : Nat} {v : Value} {l : List Int} (h : ZSp w base v l) (hb : Below w.heap.size w w') : ZSp w' base v l := by
  obtain ⟨g, cp, e, h1, h2, h3⟩ := h.x
  exact ⟨g, cp, e, h1, h2, own_below h3 hb⟩
theorem RSp.sl {w : World} {base : Nat} {v : Value} {l : List Rm} (h : RSp w base v l) : ∃ pp cp, v = .slice pp l.length cp ∧ SlR w pp w.heap.size l := by
  obtain ⟨g, cp, e, _, _, _, hr⟩ := h.row
  exact ⟨_, _, e, ⟨hr.left⟩⟩
theorem ZSp.sl {w : World} {base : Nat} {v : Value} {l : List Int} (h : ZSp w base v l) : ∃ pp cp, v = .slice pp l.length cp ∧ SlZ w pp w.heap.size l := by
  obtain ⟨g, cp, e, _, _, _, hr⟩ := h.row
  exact ⟨_, _, e, ⟨hr.left⟩⟩
set_option maxHeartbeats 4000000 in
theorem kept_any (l : List Rm) (os : List Int) (vo va : Value) (pl po : Option Addr) (cl co b1 b2 : Nat) (w : World) (h1 : RSp w b1 vo l) (h2 : ZSp w b2 va os) (hl : SlR w pl w.heap.size l) (ho : SlZ w po w.heap.size os) (hn : l.length ≤ 8796093021952) (hm : os.length ≤ 17592186043904) :
    Calls Try.prog 17 #[vo, .slice pl l.length cl, va, .slice po os.length co] w fun r w' => r = .returned (.bool true) ∧ ∃ n, w' = w.drewN n := by
  obtain ⟨g1, c1, rfl, hc1, _, hg1, hr1⟩ := h1.row
  obtain ⟨g2, c2, rfl, hc2, _, hg2, hr2⟩ := h2.row
  obtain ⟨_, _, e1, _, q0, q1⟩ := hr1.c l.length ⟨71, 72⟩ (by simp)
  obtain ⟨_, _, e2, _, q2⟩ := hr2.c os.length 73 (by simp)
  cases e1
  cases e2
  simp only [Nat.zero_add] at q0 q1 q2
  have cR := fun n => sameRooms_self l (some ⟨g1, 0, none⟩) pl c1 cl (w.drewN n) ⟨hr1.left.c⟩ ⟨hl.row.c⟩ (by omega)
  have cI := fun n => sameInts_self os (some ⟨g2, 0, none⟩) po c2 co (w.drewN n) ⟨hr2.left.c⟩ ⟨ho.row.c⟩ (by omega)
  have cR0 := cR 0
  rw [drewN_zero] at cR0
  have k1 : (l.length : Int) + 1 ≤ c1 := by omega
  have k2 : (os.length : Int) + 1 ≤ c2 := by omega
  go_enter Try.func17, Try.ntmps17
  go_wp2_with (first
    | (go_at_call 24; refine cR0.mono ?_; rintro _ _ ⟨rfl, n1, rfl⟩)
    | (go_at_call 16; refine (cI _).mono ?_; rintro _ _ ⟨rfl, n2, rfl⟩))
  go_ret
  exact ⟨rfl, n1 + n2, rfl⟩
end Go.Proofs.Ytjdinlgbfpkodaa

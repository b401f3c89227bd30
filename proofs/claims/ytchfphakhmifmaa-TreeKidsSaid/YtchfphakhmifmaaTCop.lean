/- The law's own: copied. -/
import Derived.Test.YtchfphakhmifmaaTKid
namespace Go.Proofs.Ytchfphakhmifmaa
open Go.ChangeShapes Go.WideShapes Go.ChangeAt Go.RowKit

theorem twpList_append_ex {P : Program} {w : World} {ops : Array Oper} {rest : List Oper} {o : Oper} {a : Act} {Q : Exit → Act → World → Prop} (hgd : o.guard = none) (s x : Operand) (t tx : TypeId)
    (ho : o.op = .call { callee := .builtin .append, args := #[s, x], argTypes := #[t, tx] }) (sv xv : Value) (hs : a.eval s = sv) (hx : a.eval x = xv) (Post : Value → World → Prop)
    (hrun : ∃ v w', (∀ ty, (Builtin.append_ #[t, tx] ty #[sv, xv]).run P w = .ok v w') ∧ Post v w')
    (h : ∀ v w', Post v w' → wpList P ops Q rest (a.put o.dst v) w') : wpList P ops Q (o :: rest) a w := by
  obtain ⟨v, w', hr, hp⟩ := hrun
  refine wpList_plain hgd fun _ hK => ?_
  unfold Oper.wp execOp
  simp only [ho, resolve, invoke, builtin, Sem.run_bind, Sem.run_pure, Result.andThen_ok, List.map_toArray, List.map_cons, List.map_nil, hs, hx, hr]
  exact hK _ _ (h v w' hp)
theorem ownsRow_below {w w' : World} {base : Nat} {e : TypeId} {size : Nat} {v : Value} {n : Nat} {xs : List Value} (h : w.ownsRow base e size v n xs) (hb : Below w.heap.size w w') : w'.ownsRow base e size v n xs := by
  refine World.ownsRow.kept (row := none) h ⟨hb.os, hb.tape, hb.output, hb.size, fun k hk _ => hb.block k hk⟩ ?_
  cases hv : v.ownBlock <;> simp
theorem tinfo {t : TypeId} {z : Value} {s b : Nat} (h : (Try.prog.info? t).map (fun i => (i.zero, i.size, i.bytes)) = some (some z, s, b)) : ∃ i, Try.prog.info? t = some i ∧ i.zero = some z ∧ i.size = s ∧ i.bytes = b := by
  obtain ⟨i, hi, hz⟩ := Option.map_eq_some_iff.1 h
  simp only [Prod.mk.injEq] at hz
  exact ⟨i, hi, hz.1, hz.2.1, hz.2.2⟩
abbrev zAtt : Value := .agg #[.string ⟨#[]⟩, .string ⟨#[]⟩, .int .i64 0]
abbrev zEl : Value := .agg #[.int .i64 0, .string ⟨#[]⟩, .slice none 0 0, .string ⟨#[]⟩, .int .i64 0]
theorem infoAt : (Try.prog.info? 35).map (fun i => (i.zero, i.size, i.bytes)) = some (some zAtt, 3, 40) := by kernel_rfl
theorem infoEl : (Try.prog.info? 32).map (fun i => (i.zero, i.size, i.bytes)) = some (some zEl, 5, 72) := by kernel_rfl
theorem attCells_get : ∀ (al : List Att) (i : Nat) (t : Att), al[i]? = some t → ∀ j, j < 3 → (attCells al)[i * 3 + j]? = (attC t)[j]?
  | [], _, _, h, _, _ => by cases h
  | a :: r, 0, t, h, j, hj => by
    cases h
    unfold attCells
    rw [List.flatMap_cons, List.getElem?_append_left (by simp [attC]; omega), Nat.zero_mul, Nat.zero_add]
  | a :: r, i + 1, t, h, j, hj => by
    have ih := attCells_get r i t h j hj
    unfold attCells at ih ⊢
    have hl : (attC a).length = 3 := rfl
    rw [List.flatMap_cons, List.getElem?_append_right (by omega), hl, ← ih]
    congr 1
    omega
theorem addr0 (g k : Nat) : (⟨g, 0, none⟩ : Addr).add k = ⟨g, k, none⟩ := by unfold Addr.add; split <;> simp_all
theorem addrk (g o k : Nat) : (⟨g, o, none⟩ : Addr).add k = ⟨g, o + k, none⟩ := by unfold Addr.add; split <;> simp_all
/-- The cells of attributes that lie somewhere. -/
theorem ARow.news {w : World} {ad : Addr} {H : Nat} {al : List Att} (h : ARow w (some ad) H al) : ∀ j u, (attCells al)[j]? = some u → w.cell? (ad.add j) = some u := by
  intro j u hu
  have hj : j < al.length * 3 := by rw [← attCells_length]; exact (List.getElem?_eq_some_iff.1 hu).1
  have hi : j / 3 < al.length := by omega
  obtain ⟨g, o, e, _, h0, h1, h2⟩ := h.c (j / 3) al[j / 3] (List.getElem?_eq_getElem hi)
  cases e
  have hg := attCells_get al (j / 3) al[j / 3] (List.getElem?_eq_getElem hi) (j % 3) (by omega)
  rw [show j / 3 * 3 + j % 3 = j by omega, hu] at hg
  rw [addrk]
  have h3 : j % 3 = 0 ∨ j % 3 = 1 ∨ j % 3 = 2 := by omega
  rcases h3 with h3 | h3 | h3
  · rw [h3] at hg
    cases Option.some.inj hg
    rw [show o + j = o + j / 3 * 3 by omega]; exact h0
  · rw [h3] at hg
    cases Option.some.inj hg
    rw [show o + j = o + j / 3 * 3 + 1 by omega]; exact h1
  · rw [h3] at hg
    cases Option.some.inj hg
    rw [show o + j = o + j / 3 * 3 + 2 by omega]; exact h2
/-- Attributes that a call has laid by append. -/
theorem ARow.of_own {w : World} {base g cap H : Nat} {al bl : List Att} {n : Nat} (h : w.ownsRow base 35 3 (.slice (some ⟨g, 0, none⟩) n cap) n (attCells (al ++ bl))) (hg : g < H) : ARow w (some ⟨g, 0, none⟩) H al :=
  ⟨fun i t ht => by
    have hti : (al ++ bl)[i]? = some t := by rw [List.getElem?_append_left (List.getElem?_eq_some_iff.1 ht).1]; exact ht
    have hc := World.ownsRow.cells h (g := g) rfl
    have c0 := hc (i * 3) _ (attCells_get _ i t hti 0 (by decide))
    have c1 := hc (i * 3 + 1) _ (attCells_get _ i t hti 1 (by decide))
    have c2 := hc (i * 3 + 2) _ (attCells_get _ i t hti 2 (by decide))
    rw [addr0] at c0 c1 c2
    exact ⟨g, 0, rfl, hg, by rw [Nat.zero_add]; exact c0, by rw [Nat.zero_add]; exact c1, by rw [Nat.zero_add]; exact c2⟩⟩
/-- 'append(nil, x.Attrs...)'. -/
theorem att_cp {w : World} {pa : Option Addr} {ca H : Nat} {al : List Att} (hA : ARow w pa H al) (hl : al.length * 40 ≤ 140737488351232) :
    ∃ v' w', (∀ ty, (Builtin.append_ #[30, 30] ty #[.slice none 0 0, .slice pa al.length ca]).run Try.prog w = .ok v' w') ∧ (w'.ownsRow w.heap.size 35 3 v' al.length (attCells al) ∧ Below w.heap.size w w') := by
  obtain ⟨i0, hi, hz, hs, hb⟩ := tinfo infoAt
  cases pa with
  | none =>
    have h0 : al = [] := by
      cases al with
      | nil => rfl
      | cons a r =>
        obtain ⟨g, o, e, _⟩ := hA.c 0 a rfl
        cases e
    subst h0
    refine ⟨.slice none 0 0, w, fun ty => ?_, World.ownsRow_nil _ _ _ 3, Below.refl _ _⟩
    have S := Src.ofNil (P := Try.prog) (size := i0.size) w Try.underlying30 ca
    have hln : ∀ w' : World, (Builtin.lenOf (.slice none 0 ca)).run Try.prog w' = .ok 0 w' := S.len
    have hcl : (Builtin.firstCells i0.size 0 (.slice none 0 ca)).run Try.prog w = .ok #[] w := S.cells
    simp [Builtin.append_, run_underlying Try.underlying30, sizeOf, typeInfo, hi, hln, hcl]
  | some ad =>
    have hr := fun ty => run_append_own_at (P := Try.prog) w w.heap.size 30 ty 35 i0 zAtt 3 40 Try.underlying30 hi hz hs hb rfl (by decide) (.slice none 0 0) 0 [] (World.ownsRow_nil _ _ _ 3) ad al.length ca (attCells al) (attCells_length al) hA.news (attCells_one al) (by simp only [maxLen]; omega) (by omega) (Nat.le_refl _)
    obtain ⟨v', w', h1, h2, h3, _⟩ := hr 0
    refine ⟨v', w', fun ty => ?_, by simpa using h2, ⟨h3.os, h3.tape, h3.output, h3.size, fun k hk => h3.block k hk (by simp [Value.ownBlock])⟩⟩
    obtain ⟨v2, w2, k1, _⟩ := hr ty
    have e : (Builtin.append_ #[30, 30] ty #[.slice none 0 0, .slice (some ad) al.length ca]) = (Builtin.append_ #[30, 30] 0 #[.slice none 0 0, .slice (some ad) al.length ca]) := rfl
    rw [e]
    exact h1
abbrev spareS : ByteArray := ⟨#[115, 112, 97, 114, 101]⟩
def spareA : Att := ⟨spareS, ⟨#[]⟩, 0⟩
def elC (e : El) (av : Value) : List Value := [.int .i64 e.d, .string e.nm, av, .string e.tx, .int .i64 e.p]
def elCells (ps : List (El × Value)) : List Value := ps.flatMap fun x => elC x.1 x.2
theorem elCells_get : ∀ (ps : List (El × Value)) (i : Nat) (x : El × Value), ps[i]? = some x → ∀ j, j < 5 → (elCells ps)[i * 5 + j]? = (elC x.1 x.2)[j]?
  | [], _, _, h, _, _ => by cases h
  | a :: r, 0, t, h, j, hj => by
    cases h
    unfold elCells
    rw [List.flatMap_cons, List.getElem?_append_left (by simp [elC]; omega), Nat.zero_mul, Nat.zero_add]
  | a :: r, i + 1, t, h, j, hj => by
    have ih := elCells_get r i t h j hj
    unfold elCells at ih ⊢
    have hl : (elC a.1 a.2).length = 5 := rfl
    rw [List.flatMap_cons, List.getElem?_append_right (by omega), hl, ← ih]
    congr 1
    omega
/-- A list of attributes of one's own, with one more in its room; not in block ow. -/
def AGood (w : World) (base : Nat) (ow : Option Nat) (e : El) (av : Value) : Prop :=
  ∃ ga ca, av = .slice (some ⟨ga, 0, none⟩) e.ats.length ca ∧ e.ats.length + 1 ≤ ca ∧ base ≤ ga ∧ ga < w.heap.size ∧ some ga ≠ ow ∧ ARow w (some ⟨ga, 0, none⟩) w.heap.size e.ats ∧ w.cell? ⟨ga, e.ats.length * 3, none⟩ = some (.string spareS)
theorem AGood.below {w w' : World} {base : Nat} {ow : Option Nat} {e : El} {av : Value} (h : AGood w base ow e av) (hb : Below w.heap.size w w') : AGood w' base ow e av := by
  obtain ⟨ga, ca, h1, h2, h3, h4, h5, h6, h7⟩ := h
  exact ⟨ga, ca, h1, h2, h3, Nat.lt_of_lt_of_le h4 hb.size, h5, (h6.below hb).mono hb.size, (hb.cell (p := ⟨ga, _, none⟩) h4).trans h7⟩
theorem AGood.grown {w w' : World} {base g' : Nat} {ow : Option Nat} {e : El} {av : Value} (h : AGood w base ow e av) (hg : w.grownBy w' ow) (hl : ow = some g' ∨ g' = w.heap.size) : AGood w' base (some g') e av := by
  obtain ⟨ga, ca, h1, h2, h3, h4, h5, h6, h7⟩ := h
  have hc : ∀ k, w'.cell? ⟨ga, k, none⟩ = w.cell? ⟨ga, k, none⟩ := fun k => hg.cell_far ⟨ga, k, none⟩ h4 h5
  refine ⟨ga, ca, h1, h2, h3, Nat.lt_of_lt_of_le h4 hg.size, ?_, ⟨fun i t ht => ?_⟩, (hc _).trans h7⟩
  · rcases hl with hl | hl
    · rw [← hl]; exact h5
    · rw [hl]; intro e; injection e with e; omega
  · obtain ⟨g, o, e, hgl, q0, q1, q2⟩ := h6.c i t ht
    cases e
    exact ⟨ga, 0, rfl, Nat.lt_of_lt_of_le hgl hg.size, (hc _).trans q0, (hc _).trans q1, (hc _).trans q2⟩
/-- A copied list: the elements, with one more in each list's room. -/
structure CRow (w : World) (base g cap : Nat) (es : List El) : Prop where
  er : ERow w (some ⟨g, 0, none⟩) w.heap.size es
  room : es.length + 1 ≤ cap
  ge : base ≤ g
  sp : w.cell? ⟨g, es.length * 5 + 1, none⟩ = some (.string spareS)
  at_ : ∀ (i : Nat) (e : El), es[i]? = some e → ∃ ga ca, w.cell? ⟨g, i * 5 + 2, none⟩ = some (.slice (some ⟨ga, 0, none⟩) e.ats.length ca) ∧ e.ats.length + 1 ≤ ca ∧ ga < w.heap.size ∧ w.cell? ⟨ga, e.ats.length * 3, none⟩ = some (.string spareS)
  blk : ∃ cur, w.heap[g]? = some (.cells cur 32 (0, 0)) ∧ cur.size = cap * 5
theorem CRow.lt {w : World} {base g cap : Nat} {es : List El} (h : CRow w base g cap es) : g < w.heap.size := by
  obtain ⟨cur, hc, _⟩ := h.blk
  exact (Array.getElem?_eq_some_iff.1 hc).1
theorem CRow.below {w w' : World} {base g cap : Nat} {es : List El} (h : CRow w base g cap es) (hb : Below w.heap.size w w') : CRow w' base g cap es := by
  refine ⟨(h.er.below hb).mono hb.size, h.room, h.ge, (hb.cell (p := ⟨g, _, none⟩) h.lt).trans h.sp, fun i e he => ?_, ?_⟩
  · obtain ⟨ga, ca, h1, h2, h3, h4⟩ := h.at_ i e he
    exact ⟨ga, ca, (hb.cell (p := ⟨g, _, none⟩) h.lt).trans h1, h2, Nat.lt_of_lt_of_le h3 hb.size, (hb.cell (p := ⟨ga, _, none⟩) h3).trans h4⟩
  · obtain ⟨cur, hc, hs⟩ := h.blk
    exact ⟨cur, (hb.block g h.lt).trans hc, hs⟩
end Go.Proofs.Ytchfphakhmifmaa

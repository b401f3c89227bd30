/- The law's own: lists copied, each with one more in its spare room. -/
import Derived.Test.YtfikmlckcbnppaaDoorLpP
import Derived.Test.YtfikmlckcbnppaaDoorLpJ
import Derived.Deep.AppendSrc
namespace Go.Proofs.YtfikmlckcbnppaaDoor
open Go.ChangeShapes Go.WideShapes Go.ChangeAt Go.RowKit Go.Shelf Go.Maps

abbrev spareS : ByteArray := ⟨#[115, 112, 97, 114, 101]⟩
abbrev nilS : Value := .slice none 0 0
abbrev askC (v1 v2 v3 v4 : Value) : Array Value := #[.int .i64 0, .int .i64 0, .int .i64 0, .int .i64 0, .int .i64 0, .int .i64 0, .int .i64 0, .int .i64 0, .int .i64 0, .int .i64 0, .int .i64 0, .int .i64 0, v1, v2, .int .i64 0, v3, v4]
abbrev tkSp : List Value := [.int .i64 0, .string spareS, .int .i64 0, .int .i64 0, .int .i64 0, .int .i64 0, .int .i64 0, .int .i64 0, .int .i64 0, .int .u64 0, .int .u64 0, .int .u64 0, nilS, .int .u64 0, .int .i64 0, .int .i64 0, .int .i64 0, .int .i64 0, .int .i64 0, .int .i64 0, .int .i64 0]
theorem infoTkK : (Tryd.prog.info? 61).map (fun i => (i.zero, i.size, i.bytes)) = some (some (.agg #[.int .i64 0, .string ⟨#[]⟩, .int .i64 0, .int .i64 0, .int .i64 0, .int .i64 0, .int .i64 0, .int .i64 0, .int .i64 0, .int .u64 0, .int .u64 0, .int .u64 0, nilS, .int .u64 0, .int .i64 0, .int .i64 0, .int .i64 0, .int .i64 0, .int .i64 0, .int .i64 0, .int .i64 0]), 21, 192) := by kernel_rfl
theorem infoU8K : (Tryd.prog.info? 5).map (fun i => (i.zero, i.size, i.bytes)) = some (some (.int .u8 0), 1, 1) := by kernel_rfl
theorem infoU64K : (Tryd.prog.info? 59).map (fun i => (i.zero, i.size, i.bytes)) = some (some (.int .u64 0), 1, 8) := by kernel_rfl
theorem wpList_append_ex {P : Program} {w : World} {ops : Array Oper} {rest : List Oper} {o : Oper} {a : Act} {Q : Exit → Act → World → Prop} (hgd : o.guard = none) (s x : Operand) (t tx : TypeId)
    (ho : o.op = .call { callee := .builtin .append, args := #[s, x], argTypes := #[t, tx] }) (sv xv : Value) (hs : a.eval s = sv) (hx : a.eval x = xv) (Post : Value → World → Prop)
    (hrun : ∃ v w', (∀ ty, (Builtin.append_ #[t, tx] ty #[sv, xv]).run P w = .ok v w') ∧ Post v w')
    (h : ∀ v w', Post v w' → wpList P ops Q rest (a.put o.dst v) w') : wpList P ops Q (o :: rest) a w := by
  obtain ⟨v, w', hr, hp⟩ := hrun
  refine wpList_plain hgd fun _ hK => ?_
  unfold Oper.wp execOp
  simp only [ho, resolve, invoke, builtin, Sem.run_bind, Sem.run_pure, Result.andThen_ok, List.map_toArray, List.map_cons, List.map_nil, hs, hx, hr]
  exact hK _ _ (h v w' hp)
/-- 'append(nil, nil...)'. -/
theorem ap_nn {t e : TypeId} {z : Value} {size bytes : Nat} (ht : Tryd.prog.underlying t = some (.slice e)) (hi : (Tryd.prog.info? e).map (fun i => (i.zero, i.size, i.bytes)) = some (some z, size, bytes)) (W : World) (ca : Nat) (ty : TypeId) : (Builtin.append_ #[t, t] ty #[nilS, .slice none 0 ca]).run Tryd.prog W = .ok nilS W := by
  obtain ⟨i0, hi0, hz0⟩ := Option.map_eq_some_iff.1 hi
  have S := Src.ofNil (P := Tryd.prog) (size := i0.size) W ht ca
  have hln : ∀ w' : World, (Builtin.lenOf (.slice none 0 ca)).run Tryd.prog w' = .ok 0 w' := S.len
  have hcl : (Builtin.firstCells i0.size 0 (.slice none 0 ca)).run Tryd.prog W = .ok #[] W := S.cells
  simp [Builtin.append_, run_underlying ht, sizeOf, typeInfo, hi0, hln, hcl, -World.alloc_eq]
/-- One more behind nothing. -/
theorem ap_one {t e : TypeId} {z : Value} {size bytes : Nat} (ht : Tryd.prog.underlying t = some (.slice e)) (hi : (Tryd.prog.info? e).map (fun i => (i.zero, i.size, i.bytes)) = some (some z, size, bytes)) (hz : z.cells.size = size) (hsz : 0 < size) (hby : bytes ≤ 1000) (W : World) (cs : List Value) (hcs : cs.length = size) (h1 : ∀ u ∈ cs, u.oneCell' = true) :
    ∃ g c w', (∀ ty, (Builtin.append_ #[t, t] ty #[nilS, .slice (some ⟨W.heap.size, 0, none⟩) 1 1]).run Tryd.prog (W.alloc (.cells cs.toArray e)) = .ok (.slice (some ⟨g, 0, none⟩) 1 c) w') ∧ w'.ownsRow W.heap.size e size (.slice (some ⟨g, 0, none⟩) 1 c) 1 cs ∧ Below W.heap.size W w' ∧ 1 ≤ c := by
  obtain ⟨v', w', q1, q2, q3, -, -⟩ := ap_genP (W := W) (base := W.heap.size) (n := 0) (v := nilS) (xs := []) ht hi hz hsz (World.ownsRow_nil _ _ _ _) cs hcs h1 (by omega) (by omega) (Nat.le_refl _)
  rcases q2.2 with ⟨_, h0⟩ | ⟨g, cap, cur, e2, hb, hg, hn, -⟩
  · omega
  · subst e2
    exact ⟨g, cap, w', q1, q2, q3, hn⟩
theorem SpRow.nil_of {W : World} {H : Nat} {l : List (ByteArray × Int)} (h : SpRow W none H l) : l = [] := by
  cases l with
  | nil => rfl
  | cons a r => obtain ⟨g, o, e, _⟩ := h.c 0 a rfl; cases e
theorem spL_get (l : List (ByteArray × Int)) (i : Nat) (x : ByteArray × Int) (h : l[i]? = some x) : (spL l)[i * 2]? = some (.string x.1) ∧ (spL l)[i * 2 + 1]? = some (.int .i64 x.2) := by
  induction l generalizing i with
  | nil => simp at h
  | cons a r ih =>
    cases i with
    | zero => simp at h; subst h; exact ⟨rfl, rfl⟩
    | succ i =>
      have := ih i (by simpa using h)
      rw [show (i + 1) * 2 = i * 2 + 2 by omega, show i * 2 + 2 + 1 = (i * 2 + 1) + 2 by omega]
      exact this
theorem spL_len (l : List (ByteArray × Int)) : (spL l).length = l.length * 2 := by
  induction l with
  | nil => rfl
  | cons a r ih => show (spL r).length + 1 + 1 = _; rw [ih, List.length_cons]; omega
theorem spL_one (l : List (ByteArray × Int)) : ∀ u ∈ spL l, u.oneCell' = true := by
  intro u hu
  obtain ⟨x, -, hx⟩ := List.mem_flatMap.1 hu
  simp at hx
  rcases hx with rfl | rfl <;> rfl
theorem addrI (g o k : Nat) : (⟨g, o, none⟩ : Addr).add k = ⟨g, o + k, none⟩ := by unfold Addr.add; split <;> simp_all
theorem spL_row {W : World} {g o H : Nat} {l : List (ByteArray × Int)} (h : SpRow W (some ⟨g, o, none⟩) H l) (j : Nat) (u : Value) (hj : (spL l)[j]? = some u) : W.cell? ((⟨g, o, none⟩ : Addr).add j) = some u := by
  have hlt : j < l.length * 2 := by rw [← spL_len]; exact (List.getElem?_eq_some_iff.1 hj).1
  have hx : l[j / 2]? = some (l[j / 2]'(by omega)) := List.getElem?_eq_getElem _
  obtain ⟨g', o', e, _, h1, h2⟩ := h.c _ _ hx
  cases e
  have hs := spL_get l _ _ hx
  rw [addrI]
  rcases Nat.mod_two_eq_zero_or_one j with e | e
  · rw [show j / 2 * 2 = j by omega] at hs h1
    rw [h1, ← hj, hs.1]
  · rw [show j / 2 * 2 + 1 = j by omega] at hs
    rw [show o + j / 2 * 2 + 1 = o + j by omega] at h2
    rw [h2, ← hj, hs.2]
/-- 'append(nil, l...)'. -/
theorem st_cp {W : World} {pp : Option Addr} {H : Nat} {l : List (ByteArray × Int)} (ca : Nat) (h : SpRow W pp H l) (hl : l.length ≤ 1048576) : ∃ p c w', (∀ ty, (Builtin.append_ #[22, 22] ty #[nilS, .slice pp l.length ca]).run Tryd.prog W = .ok (.slice p l.length c) w') ∧ StR w' W.heap.size (.slice p l.length c) l ∧ Below W.heap.size W w' := by
  cases pp with
  | none =>
    obtain rfl := h.nil_of
    exact ⟨none, 0, W, fun ty => ap_nn Tryd.underlying22 infoSpK W ca ty, World.ownsRow_nil _ _ _ 2, Below.refl _ _⟩
  | some ad =>
    obtain ⟨i0, hi0, hz0⟩ := Option.map_eq_some_iff.1 infoSpK
    simp only [Prod.mk.injEq] at hz0
    have hN : ∀ (j : Nat) (u : Value), (spL l)[j]? = some u → W.cell? (ad.add j) = some u := fun j u hj => by
      have hlt : 0 < l.length := by have := (List.getElem?_eq_some_iff.1 hj).1; rw [spL_len] at this; omega
      obtain ⟨g, o, e, -⟩ := h.c 0 l[0] (List.getElem?_eq_getElem hlt)
      cases e
      exact spL_row h j u hj
    obtain ⟨v', w', q1, q2, q3, _, q5⟩ := run_append_own_at (P := Tryd.prog) W W.heap.size 22 0 46 i0 _ 2 24 Tryd.underlying22 hi0 hz0.1 hz0.2.1 hz0.2.2 rfl (by decide) nilS 0 [] (World.ownsRow_nil _ _ _ 2) ad l.length ca (spL l) (spL_len l) hN (spL_one l) (by simp only [maxLen]; omega) (by omega) (by omega)
    rw [Nat.zero_add, List.nil_append] at q2
    have hB : Below W.heap.size W w' := ⟨q3.os, q3.tape, q3.output, q3.size, fun k hk => q3.block k hk (fun e => by cases e)⟩
    rcases q2.2 with ⟨e1, h0⟩ | ⟨g, cap, cur, e2, -⟩
    · subst e1
      have : l = [] := List.length_eq_zero_iff.1 (by simpa using h0)
      subst this
      exact ⟨none, 0, w', fun _ => q1, q2, hB⟩
    · subst e2
      exact ⟨_, cap, w', fun _ => q1, q2, hB⟩
end Go.Proofs.YtfikmlckcbnppaaDoor

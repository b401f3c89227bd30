/- A form copied: the memory of it. -/
import Derived.Test.YtgobecedammlgaaJRs
import Derived.Maps.AppendAt
namespace Go.Proofs.Ytgobecedammlgaa
open Go.ChangeShapes Go.WideShapes Go.ChangeAt Go.RowKit

theorem own_ge {w : World} {base : Nat} {e : TypeId} {size : Nat} {v : Value} {n : Nat} {xs : List Value} (h : w.ownsRow base e size v n xs) : ∀ k, v.ownBlock = some k → base ≤ k := fun k hk => (h.lt k hk).1
theorem ownsRow_below {w w' : World} {base : Nat} {e : TypeId} {size : Nat} {v : Value} {n : Nat} {xs : List Value} (h : w.ownsRow base e size v n xs) (hb : Below w.heap.size w w') : w'.ownsRow base e size v n xs := by
  refine World.ownsRow.kept (row := none) h ⟨hb.os, hb.tape, hb.output, hb.size, fun k hk _ => hb.block k hk⟩ ?_
  cases hv : v.ownBlock <;> simp
theorem own_base {w : World} {base base' : Nat} {e : TypeId} {size : Nat} {v : Value} {n : Nat} {xs : List Value} (h : w.ownsRow base e size v n xs) (hb : ∀ k, v.ownBlock = some k → base' ≤ k) : w.ownsRow base' e size v n xs := by
  refine ⟨h.1, ?_⟩
  rcases h.2 with hn | ⟨g, cap, cur, rfl, _, rest⟩
  · exact .inl hn
  · exact .inr ⟨g, cap, cur, rfl, hb g rfl, rest⟩
theorem own_cap {w : World} {base : Nat} {e : TypeId} {size : Nat} {pp : Option Addr} {n cap : Nat} {xs : List Value} (h : w.ownsRow base e size (.slice pp n cap) n xs) (hn : 0 < n) : n ≤ cap := by
  rcases h.2 with ⟨_, h0⟩ | ⟨g, cp, cur, hv, _, _, hc, _⟩
  · omega
  · injection hv with _ _ h3
    omega
/-- A row of one's own, cut short. -/
theorem own_cut {w : World} {base : Nat} {e : TypeId} {size g n m cap : Nat} {xs ys : List Value} (h : w.ownsRow base e size (.slice (some ⟨g, 0, none⟩) (n + m) cap) (n + m) (xs ++ ys)) (hl : xs.length = n * size) : w.ownsRow base e size (.slice (some ⟨g, 0, none⟩) n cap) n xs := by
  refine ⟨hl, ?_⟩
  rcases h.2 with ⟨e, _⟩ | ⟨g', cp, cur, hv, hb, hg, hc, hm, hs, ht⟩
  · cases e
  · injection hv with h1 h2 h3
    injection h1 with h1
    injection h1 with h1
    subst h1 h3
    refine .inr ⟨g, cap, cur, rfl, hb, hg, by omega, hm, hs, ?_⟩
    have : cur.toList.take (n * size) = (cur.toList.take ((n + m) * size)).take (n * size) := by
      rw [List.take_take]
      congr 1
      rw [Nat.add_mul]
      omega
    rw [this, ht, List.take_append_of_le_length (by omega), List.take_of_length_le (by omega)]
theorem addr0 (g k : Nat) : (⟨g, 0, none⟩ : Addr).add k = ⟨g, k, none⟩ := by unfold Addr.add; split <;> simp_all
theorem addrk (g o k : Nat) : (⟨g, o, none⟩ : Addr).add k = ⟨g, o + k, none⟩ := by unfold Addr.add; split <;> simp_all
theorem tinfo {t : TypeId} {z : Value} {s b : Nat} (h : (Try.prog.info? t).map (fun i => (i.zero, i.size, i.bytes)) = some (some z, s, b)) : ∃ i, Try.prog.info? t = some i ∧ i.zero = some z ∧ i.size = s ∧ i.bytes = b := by
  obtain ⟨i, hi, hz⟩ := Option.map_eq_some_iff.1 h
  simp only [Prod.mk.injEq] at hz
  exact ⟨i, hi, hz.1, hz.2.1, hz.2.2⟩
abbrev zTk : Value := .agg #[.int .i64 0, .string ⟨#[]⟩, .int .i64 0, .int .i64 0, .int .i64 0, .int .i64 0, .int .i64 0, .int .i64 0, .int .i64 0, .int .u64 0, .int .u64 0, .int .u64 0, .slice none 0 0, .int .u64 0, .int .i64 0, .int .i64 0, .int .i64 0, .int .i64 0, .int .i64 0, .int .i64 0, .int .i64 0]
theorem infoUK : (Try.prog.info? 35).map (fun i => (i.zero, i.size, i.bytes)) = some (some (.int .u64 0), 1, 8) := by kernel_rfl
theorem infoTkK : (Try.prog.info? 38).map (fun i => (i.zero, i.size, i.bytes)) = some (some zTk, 21, 192) := by kernel_rfl
/-- Words as cells. -/
abbrev uC (l : List Int) : List Value := l.map fun x => Value.int .u64 x
theorem uC_one (l : List Int) : ∀ u ∈ uC l, u.oneCell' = true := by
  intro u hu
  obtain ⟨x, _, rfl⟩ := List.mem_map.1 hu
  rfl
theorem URow.news {w : World} {ad : Addr} {H : Nat} {l : List Int} (h : URow w (some ad) H l) : ∀ j u, (uC l)[j]? = some u → w.cell? (ad.add j) = some u := by
  intro j u hu
  rw [List.getElem?_map] at hu
  cases hx : l[j]? with
  | none => rw [hx] at hu; cases hu
  | some x =>
    rw [hx] at hu
    cases hu
    obtain ⟨g, o, e, _, hc⟩ := h.c j x hx
    cases e
    rw [addrk]
    exact hc
theorem URow.of_own {w : World} {base g cap n H : Nat} {l m : List Int} (h : w.ownsRow base 35 1 (.slice (some ⟨g, 0, none⟩) n cap) n (uC (l ++ m))) (hg : g < H) : URow w (some ⟨g, 0, none⟩) H l :=
  ⟨fun i t ht => by
    have hti : (l ++ m)[i]? = some t := by rw [List.getElem?_append_left (List.getElem?_eq_some_iff.1 ht).1]; exact ht
    have hc := World.ownsRow.cells h (g := g) rfl i (.int .u64 t) (by rw [List.getElem?_map, hti]; rfl)
    rw [addr0] at hc
    exact ⟨g, 0, rfl, hg, by rw [Nat.zero_add]; exact hc⟩⟩
/-- 'append(c, t.Const...)' onto an empty list of one's own. -/
theorem u_cp {w : World} {b g cap : Nat} {pa : Option Addr} {ca H : Nat} {l : List Int} (hO : w.ownsRow b 35 1 (.slice (some ⟨g, 0, none⟩) 0 cap) 0 []) (hA : URow w pa H l) (hl : l.length * 8 ≤ 140737488351232) (hb : b ≤ w.heap.size) :
    ∃ v' w', (∀ ty, (Builtin.append_ #[36, 36] ty #[.slice (some ⟨g, 0, none⟩) 0 cap, .slice pa l.length ca]).run Try.prog w = .ok v' w') ∧ (w'.ownsRow b 35 1 v' l.length (uC l) ∧ Below b w w') := by
  obtain ⟨i0, hi, hz, hs, hby⟩ := tinfo infoUK
  have hgb := own_ge hO g rfl
  cases pa with
  | none =>
    have h0 : l = [] := by
      cases l with
      | nil => rfl
      | cons a r =>
        obtain ⟨g, o, e, _⟩ := hA.c 0 a rfl
        cases e
    subst h0
    refine ⟨.slice (some ⟨g, 0, none⟩) 0 cap, w, fun ty => ?_, hO, Below.refl _ _⟩
    have S := Src.ofNil (P := Try.prog) (size := i0.size) w Try.underlying36 ca
    have hln : ∀ w' : World, (Builtin.lenOf (.slice none 0 ca)).run Try.prog w' = .ok 0 w' := S.len
    have hcl : (Builtin.firstCells i0.size 0 (.slice none 0 ca)).run Try.prog w = .ok #[] w := S.cells
    simp [Builtin.append_, run_underlying Try.underlying36, sizeOf, typeInfo, hi, hln, hcl, storeCells]
  | some ad =>
    have hr := fun ty => run_append_own_at (P := Try.prog) w b 36 ty 35 i0 (.int .u64 0) 1 8 Try.underlying36 hi hz hs hby rfl (by decide) (.slice (some ⟨g, 0, none⟩) 0 cap) 0 [] hO ad l.length ca (uC l) (by simp) hA.news (uC_one l) (by simp only [maxLen]; omega) (by omega) hb
    obtain ⟨v', w', h1, h2, h3, _⟩ := hr 0
    refine ⟨v', w', fun ty => h1, by simpa using h2, ⟨h3.os, h3.tape, h3.output, h3.size, fun k hk => ?_⟩⟩
    by_cases hkw : k < w.heap.size
    · exact h3.block k hkw (by simp [Value.ownBlock]; omega)
    · omega
/-- A token with its copied words: their block, their room. -/
structure TkP where
  t : Tk
  g : Nat
  c : Nat
abbrev TkP.cs (x : TkP) : List Value := tkC x.t (some ⟨x.g, 0, none⟩) x.c
def tpC (ps : List TkP) : List Value := ps.flatMap TkP.cs
theorem tpC_snoc (ps : List TkP) (x : TkP) : tpC (ps ++ [x]) = tpC ps ++ x.cs := by
  unfold tpC
  rw [List.flatMap_append]
  simp
theorem tpC_length (ps : List TkP) : (tpC ps).length = ps.length * 21 := by
  induction ps with
  | nil => rfl
  | cons a r ih =>
    unfold tpC at ih ⊢
    rw [List.flatMap_cons, List.length_append, ih, List.length_cons]
    show 21 + _ = _
    omega
theorem tpC_get : ∀ (ps : List TkP) (i : Nat) (x : TkP) (ys : List Value), ps[i]? = some x → ∀ j, j < 21 → (tpC ps ++ ys)[i * 21 + j]? = x.cs[j]?
  | [], _, _, _, h, _, _ => by cases h
  | a :: r, 0, t, ys, h, j, hj => by
    cases h
    unfold tpC
    have hl : a.cs.length = 21 := rfl
    rw [List.flatMap_cons, List.append_assoc, List.getElem?_append_left (by omega), Nat.zero_mul, Nat.zero_add]
  | a :: r, i + 1, t, ys, h, j, hj => by
    have ih := tpC_get r i t ys h j hj
    unfold tpC at ih ⊢
    have hl : a.cs.length = 21 := rfl
    rw [List.flatMap_cons, List.append_assoc, List.getElem?_append_right (by omega), hl, ← ih]
    congr 1
    omega
/-- The words of a copied token: of one's own, a mark behind them. -/
def UGood (w : World) (base : Nat) (x : TkP) : Prop := w.ownsRow base 35 1 (.slice (some ⟨x.g, 0, none⟩) (x.t.cst.length + 1) x.c) (x.t.cst.length + 1) (uC (x.t.cst ++ [77]))
theorem UGood.lt {w : World} {base : Nat} {x : TkP} (h : UGood w base x) : base ≤ x.g ∧ x.g < w.heap.size := World.ownsRow.lt h x.g rfl
theorem UGood.below {w w' : World} {base : Nat} {x : TkP} (h : UGood w base x) (hb : Below w.heap.size w w') : UGood w' base x := ownsRow_below h hb
theorem UGood.kept {w w' : World} {base : Nat} {row : Option Nat} {x : TkP} (h : UGood w base x) (hg : w.grownBy w' row) (hne : some x.g ≠ row) : UGood w' base x := World.ownsRow.kept h hg (.inr hne)
theorem UGood.row {w : World} {base : Nat} {x : TkP} (h : UGood w base x) : URow w (some ⟨x.g, 0, none⟩) w.heap.size x.t.cst := URow.of_own h h.lt.2
theorem UGood.room {w : World} {base : Nat} {x : TkP} (h : UGood w base x) : x.t.cst.length + 1 ≤ x.c := own_cap h (by omega)
abbrev spareS : ByteArray := ⟨#[115, 112, 97, 114, 101, 32, 114, 111, 111, 109]⟩
abbrev spareT : Tk := ⟨0, spareS, 0, 0, 0, 0, 0, 0, 0, 0, 0, 0, [], 0, 0, 0, ⟨0, 0⟩, ⟨0, 0⟩, 0⟩
/-- A copied list of tokens: one more in its room, and in that of each one's words. -/
structure Cop (w : World) (base g cap : Nat) (ps : List TkP) : Prop where
  row : w.ownsRow base 38 21 (.slice (some ⟨g, 0, none⟩) (ps.length + 1) cap) (ps.length + 1) (tpC ps ++ tkC spareT none 0)
  good : ∀ x ∈ ps, UGood w base x ∧ x.g ≠ g
  dis : (ps.map TkP.g).Pairwise (· < ·)
theorem Cop.lt {w : World} {base g cap : Nat} {ps : List TkP} (h : Cop w base g cap ps) : base ≤ g ∧ g < w.heap.size := World.ownsRow.lt h.row g rfl
theorem Cop.below {w w' : World} {base g cap : Nat} {ps : List TkP} (h : Cop w base g cap ps) (hb : Below w.heap.size w w') : Cop w' base g cap ps :=
  ⟨ownsRow_below h.row hb, fun x hx => ⟨(h.good x hx).1.below hb, (h.good x hx).2⟩, h.dis⟩
theorem Cop.room {w : World} {base g cap : Nat} {ps : List TkP} (h : Cop w base g cap ps) : ps.length + 1 ≤ cap := own_cap h.row (by omega)
theorem Cop.tk {w : World} {base g cap : Nat} {ps : List TkP} (h : Cop w base g cap ps) {i : Nat} {x : TkP} (hx : ps[i]? = some x) : TkC w g (i * 21) x.t (some ⟨x.g, 0, none⟩) x.c :=
  tkC_of fun j u hu => by
    have hj : j < 21 := (List.getElem?_eq_some_iff.1 hu).1
    have hc := World.ownsRow.cells h.row (g := g) rfl (i * 21 + j) u ((tpC_get ps i x _ hx j hj).trans hu)
    rwa [addr0] at hc
theorem Cop.trow {w : World} {base g cap : Nat} {ps : List TkP} (h : Cop w base g cap ps) : TkRow w (some ⟨g, 0, none⟩) w.heap.size (ps.map TkP.t) :=
  ⟨fun i t ht => by
    rw [List.getElem?_map] at ht
    cases hx : ps[i]? with
    | none => rw [hx] at ht; cases ht
    | some x =>
      rw [hx] at ht
      cases ht
      have hg := (h.good x (List.mem_of_getElem? hx)).1
      exact ⟨g, 0, some ⟨x.g, 0, none⟩, x.c, rfl, h.lt.2, by rw [Nat.zero_add]; exact h.tk hx, hg.row, Nat.le_of_succ_le hg.room⟩⟩
end Go.Proofs.Ytgobecedammlgaa

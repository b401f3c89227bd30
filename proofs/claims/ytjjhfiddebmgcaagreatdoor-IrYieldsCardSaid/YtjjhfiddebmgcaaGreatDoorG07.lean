/- JRf, JRs, JCm, JCp, IYk, IYo. -/
import Derived.Test.YtjjhfiddebmgcaaGreatDoorG06
import Derived.Maps.AppendAt
namespace Go.Proofs.YtjjhfiddebmgcaaGreatDoor.J
open Go.ChangeShapes Go.WideShapes Go.ChangeAt Go.RowKit

end Go.Proofs.YtjjhfiddebmgcaaGreatDoor.J
namespace Go.Proofs.YtjjhfiddebmgcaaGreatDoor.J
open Go.ChangeShapes Go.WideShapes Go.ChangeAt Go.RowKit

/-- A load of something great, in a region that draws its order. -/
theorem lx_ld {P : Program} {ops : Array Oper} {C : World → Prop} {Q : Exit → Act → World → Prop} {d : Option Tmp} {t ty : TypeId} {x : Operand} {ps : String} {af : Array Edge} {gd : Option (Nat × Bool)} {r : List Oper} {a : Act} {w : World} {p v : Value}
    (hl : ∀ W, C W → (Instr.loadAt t p).run P W = .ok v W) (hx : a.eval x = p) (hw : Region.wanted ⟨d, .load t x, ty, ps, af, gd⟩ (yielded ops a.tmps) = true) (h : Lx P ops C Q r (a.put d v) w) : Lx P ops C Q (⟨d, .load t x, ty, ps, af, gd⟩ :: r) a w :=
  lx_read hw rfl fun K hK => ⟨v, fun W hW => by
    unfold Oper.quietAt execOp
    simp only [hx, hl W hW, Sem.run_bind, Result.andThen_ok, Sem.run_pure]
    exact ⟨rfl, rfl⟩, hK _ h⟩
theorem fm_of {w : World} {g : Nat} {f : Fm} {pp : Option Addr} {cp : Nat} (h : w.heap[g]? = some (fmO f pp cp)) : FmC w g 0 f pp cp :=
  ⟨cell_at h 0, cell_at h 1, cell_at h 2, cell_at h 3, cell_at h 4, cell_at h 5, cell_at h 6, cell_at h 7, cell_at h 8, cell_at h 9, cell_at h 10, cell_at h 11, cell_at h 12⟩
theorem fm_eq {f g : Fm} : f = g ↔ (f.ord = g.ord ∧ f.sch = g.sch ∧ f.ver = g.ver ∧ f.hsz = g.hsz ∧ f.hb.p = g.hb.p ∧ f.hb.o = g.hb.o ∧ f.ht.p = g.ht.p ∧ f.ht.o = g.ht.o ∧ f.hs.p = g.hs.p ∧ f.hs.o = g.hs.o ∧ f.hv.p = g.hv.p ∧ f.hv.o = g.hv.o) ∧ f.toks = g.toks := by
  obtain ⟨or1, sc1, ve1, hz1, ⟨bp1, bo1⟩, ⟨tp1, to1⟩, ⟨sp1, so1⟩, ⟨vp1, vo1⟩, l1⟩ := f
  obtain ⟨or2, sc2, ve2, hz2, ⟨bp2, bo2⟩, ⟨tp2, to2⟩, ⟨sp2, so2⟩, ⟨vp2, vo2⟩, l2⟩ := g
  simp only [Fm.mk.injEq, Sp.mk.injEq]
  constructor
  · rintro ⟨h1, h2, h3, h4, ⟨h5, h6⟩, ⟨h7, h8⟩, ⟨h9, h10⟩, ⟨h11, h12⟩, h13⟩; exact ⟨⟨h1, h2, h3, h4, h5, h6, h7, h8, h9, h10, h11, h12⟩, h13⟩
  · rintro ⟨⟨h1, h2, h3, h4, h5, h6, h7, h8, h9, h10, h11, h12⟩, h13⟩; exact ⟨h1, h2, h3, h4, ⟨h5, h6⟩, ⟨h7, h8⟩, ⟨h9, h10⟩, ⟨h11, h12⟩, h13⟩
end Go.Proofs.YtjjhfiddebmgcaaGreatDoor.J
namespace Go.Proofs.YtjjhfiddebmgcaaGreatDoor.J
open Go.ChangeShapes Go.WideShapes Go.ChangeAt Go.RowKit

theorem own_ge {w : World} {base : Nat} {e : TypeId} {size : Nat} {v : Value} {n : Nat} {xs : List Value} (h : w.ownsRow base e size v n xs) : ∀ k, v.ownBlock = some k → base ≤ k := fun k hk => (h.lt k hk).1
theorem ownsRow_below {w w' : World} {base : Nat} {e : TypeId} {size : Nat} {v : Value} {n : Nat} {xs : List Value} (h : w.ownsRow base e size v n xs) (hb : Below w.heap.size w w') : w'.ownsRow base e size v n xs := by
  refine World.ownsRow.kept (row := none) h ⟨hb.os, hb.tape, hb.output, hb.size, fun k hk _ => hb.block k hk⟩ ?_
  cases hv : v.ownBlock <;> simp
theorem own_base {w : World} {base base' : Nat} {e : TypeId} {size : Nat} {v : Value} {n : Nat} {xs : List Value} (h : w.ownsRow base e size v n xs) (hb : ∀ k, v.ownBlock = some k → base' ≤ k) : w.ownsRow base' e size v n xs := by
  refine ⟨h.1, ?_⟩
  rcases h.2 with hn | ⟨g, cap, cur, rfl, _, rest⟩
  · exact .inl hn
  · exact .inr ⟨g, cap, cur, rfl, hb g rfl, rest⟩
theorem own_cap {w : World} {base : Nat} {e : TypeId} {size : Nat} {pp : Option Addr} {n cap : Nat} {xs : List Value} (h : w.ownsRow base e size (.slice pp n cap) n xs) (hn : 0 < n) : n ≤ cap := by
  rcases h.2 with ⟨_, h0⟩ | ⟨g, cp, cur, hv, _, _, hc, _⟩
  · omega
  · injection hv with _ _ h3
    omega
/-- A row of one's own, cut short. -/
theorem own_cut {w : World} {base : Nat} {e : TypeId} {size g n m cap : Nat} {xs ys : List Value} (h : w.ownsRow base e size (.slice (some ⟨g, 0, none⟩) (n + m) cap) (n + m) (xs ++ ys)) (hl : xs.length = n * size) : w.ownsRow base e size (.slice (some ⟨g, 0, none⟩) n cap) n xs := by
  refine ⟨hl, ?_⟩
  rcases h.2 with ⟨e, _⟩ | ⟨g', cp, cur, hv, hb, hg, hc, hm, hs, ht⟩
  · cases e
  · injection hv with h1 h2 h3
    injection h1 with h1
    injection h1 with h1
    subst h1 h3
    refine .inr ⟨g, cap, cur, rfl, hb, hg, by omega, hm, hs, ?_⟩
    have : cur.toList.take (n * size) = (cur.toList.take ((n + m) * size)).take (n * size) := by
      rw [List.take_take]
      congr 1
      rw [Nat.add_mul]
      omega
    rw [this, ht, List.take_append_of_le_length (by omega), List.take_of_length_le (by omega)]
theorem addr0 (g k : Nat) : (⟨g, 0, none⟩ : Addr).add k = ⟨g, k, none⟩ := by unfold Addr.add; split <;> simp_all
theorem addrk (g o k : Nat) : (⟨g, o, none⟩ : Addr).add k = ⟨g, o + k, none⟩ := by unfold Addr.add; split <;> simp_all
theorem tinfo {t : TypeId} {z : Value} {s b : Nat} (h : (Tryz.prog.info? t).map (fun i => (i.zero, i.size, i.bytes)) = some (some z, s, b)) : ∃ i, Tryz.prog.info? t = some i ∧ i.zero = some z ∧ i.size = s ∧ i.bytes = b := by
  obtain ⟨i, hi, hz⟩ := Option.map_eq_some_iff.1 h
  simp only [Prod.mk.injEq] at hz
  exact ⟨i, hi, hz.1, hz.2.1, hz.2.2⟩
abbrev zTk : Value := .agg #[.int .i64 0, .string ⟨#[]⟩, .int .i64 0, .int .i64 0, .int .i64 0, .int .i64 0, .int .i64 0, .int .i64 0, .int .i64 0, .int .u64 0, .int .u64 0, .int .u64 0, .slice none 0 0, .int .u64 0, .int .i64 0, .int .i64 0, .int .i64 0, .int .i64 0, .int .i64 0, .int .i64 0, .int .i64 0]
theorem infoUK : (Tryz.prog.info? 40).map (fun i => (i.zero, i.size, i.bytes)) = some (some (.int .u64 0), 1, 8) := by kernel_rfl
theorem infoTkK : (Tryz.prog.info? 43).map (fun i => (i.zero, i.size, i.bytes)) = some (some zTk, 21, 192) := by kernel_rfl
/-- Words as cells. -/
abbrev uC (l : List Int) : List Value := l.map fun x => Value.int .u64 x
theorem uC_one (l : List Int) : ∀ u ∈ uC l, u.oneCell' = true := by
  intro u hu
  obtain ⟨x, _, rfl⟩ := List.mem_map.1 hu
  rfl
theorem _root_.Go.Proofs.YtjjhfiddebmgcaaGreatDoor.URow.news {w : World} {ad : Addr} {H : Nat} {l : List Int} (h : URow w (some ad) H l) : ∀ j u, (uC l)[j]? = some u → w.cell? (ad.add j) = some u := by
  intro j u hu
  rw [List.getElem?_map] at hu
  cases hx : l[j]? with
  | none => rw [hx] at hu; cases hu
  | some x =>
    rw [hx] at hu
    cases hu
    obtain ⟨g, o, e, _, hc⟩ := h.c j x hx
    cases e
    rw [addrk]
    exact hc
theorem _root_.Go.Proofs.YtjjhfiddebmgcaaGreatDoor.URow.of_own {w : World} {base g cap n H : Nat} {l m : List Int} (h : w.ownsRow base 40 1 (.slice (some ⟨g, 0, none⟩) n cap) n (uC (l ++ m))) (hg : g < H) : URow w (some ⟨g, 0, none⟩) H l :=
  ⟨fun i t ht => by
    have hti : (l ++ m)[i]? = some t := by rw [List.getElem?_append_left (List.getElem?_eq_some_iff.1 ht).1]; exact ht
    have hc := World.ownsRow.cells h (g := g) rfl i (.int .u64 t) (by rw [List.getElem?_map, hti]; rfl)
    rw [addr0] at hc
    exact ⟨g, 0, rfl, hg, by rw [Nat.zero_add]; exact hc⟩⟩
/-- 'append(c, t.Const...)' onto an empty list of one's own. -/
theorem u_cp {w : World} {b g cap : Nat} {pa : Option Addr} {ca H : Nat} {l : List Int} (hO : w.ownsRow b 40 1 (.slice (some ⟨g, 0, none⟩) 0 cap) 0 []) (hA : URow w pa H l) (hl : l.length * 8 ≤ 140737488351232) (hb : b ≤ w.heap.size) :
    ∃ v' w', (∀ ty, (Builtin.append_ #[41, 41] ty #[.slice (some ⟨g, 0, none⟩) 0 cap, .slice pa l.length ca]).run Tryz.prog w = .ok v' w') ∧ (w'.ownsRow b 40 1 v' l.length (uC l) ∧ Below b w w') := by
  obtain ⟨i0, hi, hz, hs, hby⟩ := tinfo infoUK
  have hgb := own_ge hO g rfl
  cases pa with
  | none =>
    have h0 : l = [] := by
      cases l with
      | nil => rfl
      | cons a r =>
        obtain ⟨g, o, e, _⟩ := hA.c 0 a rfl
        cases e
    subst h0
    refine ⟨.slice (some ⟨g, 0, none⟩) 0 cap, w, fun ty => ?_, hO, Below.refl _ _⟩
    have S := Src.ofNil (P := Tryz.prog) (size := i0.size) w Tryz.underlying41 ca
    have hln : ∀ w' : World, (Builtin.lenOf (.slice none 0 ca)).run Tryz.prog w' = .ok 0 w' := S.len
    have hcl : (Builtin.firstCells i0.size 0 (.slice none 0 ca)).run Tryz.prog w = .ok #[] w := S.cells
    simp [Builtin.append_, run_underlying Tryz.underlying41, sizeOf, typeInfo, hi, hln, hcl, storeCells]
  | some ad =>
    have hr := fun ty => run_append_own_at (P := Tryz.prog) w b 41 ty 40 i0 (.int .u64 0) 1 8 Tryz.underlying41 hi hz hs hby rfl (by decide) (.slice (some ⟨g, 0, none⟩) 0 cap) 0 [] hO ad l.length ca (uC l) (by simp) hA.news (uC_one l) (by simp only [maxLen]; omega) (by omega) hb
    obtain ⟨v', w', h1, h2, h3, _⟩ := hr 0
    refine ⟨v', w', fun ty => h1, by simpa using h2, ⟨h3.os, h3.tape, h3.output, h3.size, fun k hk => ?_⟩⟩
    by_cases hkw : k < w.heap.size
    · exact h3.block k hkw (by simp [Value.ownBlock]; omega)
    · omega
/-- A token with its copied words: their block, their room. -/
structure TkP where
  t : Tk
  g : Nat
  c : Nat
abbrev TkP.cs (x : TkP) : List Value := tkC x.t (some ⟨x.g, 0, none⟩) x.c
def tpC (ps : List TkP) : List Value := ps.flatMap TkP.cs
theorem tpC_snoc (ps : List TkP) (x : TkP) : tpC (ps ++ [x]) = tpC ps ++ x.cs := by
  unfold tpC
  rw [List.flatMap_append]
  simp
theorem tpC_length (ps : List TkP) : (tpC ps).length = ps.length * 21 := by
  induction ps with
  | nil => rfl
  | cons a r ih =>
    unfold tpC at ih ⊢
    rw [List.flatMap_cons, List.length_append, ih, List.length_cons]
    show 21 + _ = _
    omega
theorem tpC_get : ∀ (ps : List TkP) (i : Nat) (x : TkP) (ys : List Value), ps[i]? = some x → ∀ j, j < 21 → (tpC ps ++ ys)[i * 21 + j]? = x.cs[j]?
  | [], _, _, _, h, _, _ => by cases h
  | a :: r, 0, t, ys, h, j, hj => by
    cases h
    unfold tpC
    have hl : a.cs.length = 21 := rfl
    rw [List.flatMap_cons, List.append_assoc, List.getElem?_append_left (by omega), Nat.zero_mul, Nat.zero_add]
  | a :: r, i + 1, t, ys, h, j, hj => by
    have ih := tpC_get r i t ys h j hj
    unfold tpC at ih ⊢
    have hl : a.cs.length = 21 := rfl
    rw [List.flatMap_cons, List.append_assoc, List.getElem?_append_right (by omega), hl, ← ih]
    congr 1
    omega
/-- The words of a copied token: of one's own, a mark behind them. -/
def UGood (w : World) (base : Nat) (x : TkP) : Prop := w.ownsRow base 40 1 (.slice (some ⟨x.g, 0, none⟩) (x.t.cst.length + 1) x.c) (x.t.cst.length + 1) (uC (x.t.cst ++ [77]))
theorem UGood.lt {w : World} {base : Nat} {x : TkP} (h : UGood w base x) : base ≤ x.g ∧ x.g < w.heap.size := World.ownsRow.lt h x.g rfl
theorem UGood.below {w w' : World} {base : Nat} {x : TkP} (h : UGood w base x) (hb : Below w.heap.size w w') : UGood w' base x := ownsRow_below h hb
theorem UGood.kept {w w' : World} {base : Nat} {row : Option Nat} {x : TkP} (h : UGood w base x) (hg : w.grownBy w' row) (hne : some x.g ≠ row) : UGood w' base x := World.ownsRow.kept h hg (.inr hne)
theorem UGood.row {w : World} {base : Nat} {x : TkP} (h : UGood w base x) : URow w (some ⟨x.g, 0, none⟩) w.heap.size x.t.cst := URow.of_own h h.lt.2
theorem UGood.room {w : World} {base : Nat} {x : TkP} (h : UGood w base x) : x.t.cst.length + 1 ≤ x.c := own_cap h (by omega)
abbrev spareS : ByteArray := ⟨#[115, 112, 97, 114, 101, 32, 114, 111, 111, 109]⟩
abbrev spareT : Tk := ⟨0, spareS, 0, 0, 0, 0, 0, 0, 0, 0, 0, 0, [], 0, 0, 0, ⟨0, 0⟩, ⟨0, 0⟩, 0⟩
/-- A copied list of tokens: one more in its room, and in that of each one's words. -/
structure Cop (w : World) (base g cap : Nat) (ps : List TkP) : Prop where
  row : w.ownsRow base 43 21 (.slice (some ⟨g, 0, none⟩) (ps.length + 1) cap) (ps.length + 1) (tpC ps ++ tkC spareT none 0)
  good : ∀ x ∈ ps, UGood w base x ∧ x.g ≠ g
  dis : (ps.map TkP.g).Pairwise (· < ·)
theorem Cop.lt {w : World} {base g cap : Nat} {ps : List TkP} (h : Cop w base g cap ps) : base ≤ g ∧ g < w.heap.size := World.ownsRow.lt h.row g rfl
theorem Cop.below {w w' : World} {base g cap : Nat} {ps : List TkP} (h : Cop w base g cap ps) (hb : Below w.heap.size w w') : Cop w' base g cap ps :=
  ⟨ownsRow_below h.row hb, fun x hx => ⟨(h.good x hx).1.below hb, (h.good x hx).2⟩, h.dis⟩
theorem Cop.room {w : World} {base g cap : Nat} {ps : List TkP} (h : Cop w base g cap ps) : ps.length + 1 ≤ cap := own_cap h.row (by omega)
theorem Cop.tk {w : World} {base g cap : Nat} {ps : List TkP} (h : Cop w base g cap ps) {i : Nat} {x : TkP} (hx : ps[i]? = some x) : TkC w g (i * 21) x.t (some ⟨x.g, 0, none⟩) x.c :=
  tkC_of fun j u hu => by
    have hj : j < 21 := (List.getElem?_eq_some_iff.1 hu).1
    have hc := World.ownsRow.cells h.row (g := g) rfl (i * 21 + j) u ((tpC_get ps i x _ hx j hj).trans hu)
    rwa [addr0] at hc
theorem Cop.trow {w : World} {base g cap : Nat} {ps : List TkP} (h : Cop w base g cap ps) : TkRow w (some ⟨g, 0, none⟩) w.heap.size (ps.map TkP.t) :=
  ⟨fun i t ht => by
    rw [List.getElem?_map] at ht
    cases hx : ps[i]? with
    | none => rw [hx] at ht; cases ht
    | some x =>
      rw [hx] at ht
      cases ht
      have hg := (h.good x (List.mem_of_getElem? hx)).1
      exact ⟨g, 0, some ⟨x.g, 0, none⟩, x.c, rfl, h.lt.2, by rw [Nat.zero_add]; exact h.tk hx, hg.row, Nat.le_of_succ_le hg.room⟩⟩
end Go.Proofs.YtjjhfiddebmgcaaGreatDoor.J
namespace Go.Proofs.YtjjhfiddebmgcaaGreatDoor.J
open Go.ChangeShapes Go.WideShapes Go.ChangeAt Go.RowKit

theorem twpList_append_ex {P : Program} {w : World} {ops : Array Oper} {rest : List Oper} {o : Oper} {a : Act} {Q : Exit → Act → World → Prop} (hgd : o.guard = none) (s x : Operand) (t tx : TypeId)
    (ho : o.op = .call { callee := .builtin .append, args := #[s, x], argTypes := #[t, tx] }) (sv xv : Value) (hs : a.eval s = sv) (hx : a.eval x = xv) (Post : Value → World → Prop)
    (hrun : ∃ v w', (∀ ty, (Builtin.append_ #[t, tx] ty #[sv, xv]).run P w = .ok v w') ∧ Post v w')
    (h : ∀ v w', Post v w' → wpList P ops Q rest (a.put o.dst v) w') : wpList P ops Q (o :: rest) a w := by
  obtain ⟨v, w', hr, hp⟩ := hrun
  refine wpList_plain hgd fun _ hK => ?_
  unfold Oper.wp execOp
  simp only [ho, resolve, invoke, builtin, Sem.run_bind, Sem.run_pure, Result.andThen_ok, List.map_toArray, List.map_cons, List.map_nil, hs, hx, hr]
  exact hK _ _ (h v w' hp)
theorem heap_al_set (w : World) (a : Addr) (v : Value) (o : Obj) : ((w.setCell a v).alloc o).heap[w.heap.size]? = some o := by
  have h := heap_al (w.setCell a v) o
  rwa [show (w.setCell a v).heap.size = w.heap.size from by simp [World.setCell]] at h
theorem own_slice {w : World} {base : Nat} {e : TypeId} {size : Nat} {v : Value} {n : Nat} {xs : List Value} (h : w.ownsRow base e size v n xs) : ∃ p c, v = .slice p n c := by
  rcases h.2 with ⟨rfl, rfl⟩ | ⟨g, cap, cur, rfl, _⟩
  · exact ⟨_, _, rfl⟩
  · exact ⟨_, _, rfl⟩
theorem there_of {w : World} {g : Nat} {cs : Array Value} {ty : TypeId} (h : w.heap[g]? = some (.cells cs ty)) : w.there g 0 cs.size := fun j hj => by
  rw [Nat.zero_add, cell_at h j]
  refine ⟨by simp [hj], ?_⟩
  simp only [World.frozen?, h]
  simp
theorem bel_sets {B b : Nat} {a : World} (hb : B ≤ b) : ∀ (vs : List Value) (o : Nat) (w : World), Below B a w → Below B a (w.setCells b o vs)
  | [], _, _, h => h
  | v :: r, o, _, h => bel_sets hb r (o + 1) _ (h.setCell (p := ⟨b, o, none⟩) hb v)
theorem sets_other {b i : Nat} (hne : i ≠ b) : ∀ (vs : List Value) (o : Nat) (w : World), (w.setCells b o vs).heap[i]? = w.heap[i]?
  | [], _, _ => rfl
  | v :: r, o, w => (sets_other hne r (o + 1) (w.setCell ⟨b, o, none⟩ v)).trans (heap_setCell_other w ⟨b, o, none⟩ i v hne)
theorem own_kept {w w' : World} {base : Nat} {e : TypeId} {size : Nat} {v : Value} {n : Nat} {xs : List Value} (h : w.ownsRow base e size v n xs) (hb : ∀ k, v.ownBlock = some k → w'.heap[k]? = w.heap[k]?) : w'.ownsRow base e size v n xs := by
  refine ⟨h.1, ?_⟩
  rcases h.2 with hn | ⟨g, cap, cur, rfl, h1, hg, rest⟩
  · exact .inl hn
  · exact .inr ⟨g, cap, cur, rfl, h1, (hb g rfl).trans hg, rest⟩
theorem results_cell_v {P : Program} {fn : Func} {p : Tmp} {ty : TypeId} (h : fn.results = #[.cell p ty]) (tmps : Array Value) (w : World) (g : Nat) (v : Value) (hp : tmps.getD p undef = .pointer (some ⟨g, 0, none⟩)) (hl : (loadVar ty ⟨g, 0, none⟩).run P w = .ok v w) : (results fn tmps).run P w = .ok v w := by
  have hp' : tmps[p]?.getD undef = .pointer (some ⟨g, 0, none⟩) := by simpa using hp
  simp [results, h, hp', asAddr, hl]
theorem fm_range {w : World} {g o : Nat} {f : Fm} {pp : Option Addr} {cp : Nat} (h : FmC w g o f pp cp) : w.rangeAt g o (fmC f pp cp).toList := by
  intro j v hv
  have hj : j < 13 := (List.getElem?_eq_some_iff.1 hv).1
  have h13 : j = 0 ∨ j = 1 ∨ j = 2 ∨ j = 3 ∨ j = 4 ∨ j = 5 ∨ j = 6 ∨ j = 7 ∨ j = 8 ∨ j = 9 ∨ j = 10 ∨ j = 11 ∨ j = 12 := by omega
  rcases h13 with rfl | rfl | rfl | rfl | rfl | rfl | rfl | rfl | rfl | rfl | rfl | rfl | rfl <;> cases Option.some.inj hv
  · exact h.c0
  · exact h.c1
  · exact h.c2
  · exact h.c3
  · exact h.c4
  · exact h.c5
  · exact h.c6
  · exact h.c7
  · exact h.c8
  · exact h.c9
  · exact h.c10
  · exact h.c11
  · exact h.c12
theorem infoFm : (Tryz.prog.info? 30).map (·.size) = some 13 := by kernel_rfl
theorem undFm : ∃ d, Tryz.prog.underlying 30 = some d ∧ d.isRow = true := ⟨_, Tryz.underlying30, rfl⟩
theorem _root_.Go.Proofs.YtjjhfiddebmgcaaGreatDoor.FmC.load {w : World} {g o : Nat} {f : Fm} {pp : Option Addr} {cp : Nat} (h : FmC w g o f pp cp) : (Instr.loadAt 30 (.pointer (some ⟨g, o, none⟩))).run Tryz.prog w = .ok (fmV f pp cp) w := by
  obtain ⟨d, hu, hd⟩ := undFm
  exact run_loadAt_mid w g o 30 (fmC f pp cp).toList d (fm_range h) hu hd infoFm
theorem fmC_one (f : Fm) (pp : Option Addr) (cp : Nat) : ∀ u ∈ (fmC f pp cp).toList, u.oneCell' = true := by
  intro u hu
  simp only [List.mem_cons, List.not_mem_nil, or_false] at hu
  rcases hu with rfl | rfl | rfl | rfl | rfl | rfl | rfl | rfl | rfl | rfl | rfl | rfl | rfl <;> rfl
theorem st_newF (w : World) (z : Array Value) (hz : z.size = 13) (f : Fm) (pp : Option Addr) (cp : Nat) : (Instr.storeAt 30 (.pointer (some ⟨w.heap.size, 0, none⟩)) (fmV f pp cp)).run Tryz.prog (w.alloc (.cells z 30)) = .ok () (w.alloc (fmO f pp cp)) :=
  run_storeAt_new w 30 z (fmC f pp cp) infoFm hz (all_oneCell_toArray (fmC_one f pp cp))
theorem tkO_set {W : World} {X : Nat} {t : Tk} {p q : Option Addr} {c d : Nat} (h : W.heap[X]? = some (tkO t p c)) : (W.setCell ⟨X, 12, none⟩ (.slice q t.cst.length d)).heap[X]? = some (tkO t q d) := by
  obtain ⟨N, hN⟩ : ∃ N, t.cst.length = N := ⟨_, rfl⟩
  rw [hN]
  have e : (W.setCell ⟨X, 12, none⟩ (.slice q N d)).heap = W.heap.modify X (fun o => match o with
    | .cells cs t f => .cells (cs.setIfInBounds 12 (.slice q N d)) t f
    | o => o) := by
    rfl
  rw [e, Array.getElem?_modify, if_pos rfl, h]
  subst hN
  rfl
theorem froz {W : World} {X : Nat} {cs : Array Value} {ty : TypeId} (h : W.heap[X]? = some (.cells cs ty)) (o : Nat) : W.frozen? ⟨X, o, none⟩ = false := by
  simp only [World.frozen?, h]
  simp
theorem one_1 (w : World) (A B : Obj) : ((w.alloc A).alloc B).heap[w.heap.size]? = some A := two_1 w A B
theorem fmO_set {W : World} {X : Nat} {f : Fm} {p q : Option Addr} {c d : Nat} (h : W.heap[X]? = some (fmO f p c)) : (W.setCell ⟨X, 12, none⟩ (.slice q f.toks.length d)).heap[X]? = some (fmO f q d) := by
  obtain ⟨N, hN⟩ : ∃ N, f.toks.length = N := ⟨_, rfl⟩
  rw [hN]
  have e : (W.setCell ⟨X, 12, none⟩ (.slice q N d)).heap = W.heap.modify X (fun o => match o with
    | .cells cs t f => .cells (cs.setIfInBounds 12 (.slice q N d)) t f
    | o => o) := by
    rfl
  rw [e, Array.getElem?_modify, if_pos rfl, h]
  subst hN
  rfl
theorem tkC_len (t : Tk) (p : Option Addr) (c : Nat) : (tkC t p c).length = 21 := rfl
abbrev zFo : Obj := .cells #[.int .i64 0, .int .i64 0, .int .i64 0, .int .i64 0, .int .i64 0, .int .i64 0, .int .i64 0, .int .i64 0, .int .i64 0, .int .i64 0, .int .i64 0, .int .i64 0, .slice none 0 0] 30
end Go.Proofs.YtjjhfiddebmgcaaGreatDoor.J
namespace Go.Proofs.YtjjhfiddebmgcaaGreatDoor
open Go.ChangeShapes Go.WideShapes Go.ChangeAt Go.RowKit
open J

/-- What lies in the spare room of a copied list. -/
abbrev spT (s : ByteArray) : Tk := ⟨0, s, 0, 0, 0, 0, 0, 0, 0, 0, 0, 0, [], 0, 0, 0, ⟨0, 0⟩, ⟨0, 0⟩, 0⟩
/-- A copied list of tokens: one more in its room, and in that of each one's words. -/
structure CopS (s : ByteArray) (w : World) (base g cap : Nat) (ps : List TkP) : Prop where
  row : w.ownsRow base 43 21 (.slice (some ⟨g, 0, none⟩) (ps.length + 1) cap) (ps.length + 1) (tpC ps ++ tkC (spT s) none 0)
  good : ∀ x ∈ ps, UGood w base x ∧ x.g ≠ g
  dis : (ps.map TkP.g).Pairwise (· < ·)
theorem CopS.lt {s : ByteArray} {w : World} {base g cap : Nat} {ps : List TkP} (h : CopS s w base g cap ps) : base ≤ g ∧ g < w.heap.size := World.ownsRow.lt h.row g rfl
theorem CopS.below {s : ByteArray} {w w' : World} {base g cap : Nat} {ps : List TkP} (h : CopS s w base g cap ps) (hb : Below w.heap.size w w') : CopS s w' base g cap ps :=
  ⟨ownsRow_below h.row hb, fun x hx => ⟨(h.good x hx).1.below hb, (h.good x hx).2⟩, h.dis⟩
theorem CopS.room {s : ByteArray} {w : World} {base g cap : Nat} {ps : List TkP} (h : CopS s w base g cap ps) : ps.length + 1 ≤ cap := own_cap h.row (by omega)
theorem CopS.tk {s : ByteArray} {w : World} {base g cap : Nat} {ps : List TkP} (h : CopS s w base g cap ps) {i : Nat} {x : TkP} (hx : ps[i]? = some x) : TkC w g (i * 21) x.t (some ⟨x.g, 0, none⟩) x.c :=
  tkC_of fun j u hu => by
    have hj : j < 21 := (List.getElem?_eq_some_iff.1 hu).1
    have hc := World.ownsRow.cells h.row (g := g) rfl (i * 21 + j) u ((tpC_get ps i x _ hx j hj).trans hu)
    rwa [addr0] at hc
theorem CopS.spare {s : ByteArray} {w : World} {base g cap : Nat} {ps : List TkP} (h : CopS s w base g cap ps) : TkC w g (ps.length * 21) (spT s) none 0 :=
  tkC_of fun j u hu => by
    have hj : j < 21 := (List.getElem?_eq_some_iff.1 hu).1
    have hc := World.ownsRow.cells h.row (g := g) rfl (ps.length * 21 + j) u (by rw [List.getElem?_append_right (by rw [tpC_length]; omega), tpC_length, show ps.length * 21 + j - ps.length * 21 = j by omega]; exact hu)
    rwa [addr0] at hc
theorem CopS.trow {s : ByteArray} {w : World} {base g cap : Nat} {ps : List TkP} (h : CopS s w base g cap ps) : TkRow w (some ⟨g, 0, none⟩) w.heap.size (ps.map TkP.t) :=
  ⟨fun i t ht => by
    rw [List.getElem?_map] at ht
    cases hx : ps[i]? with
    | none => rw [hx] at ht; cases ht
    | some x =>
      rw [hx] at ht
      cases ht
      have hg := (h.good x (List.mem_of_getElem? hx)).1
      exact ⟨g, 0, some ⟨x.g, 0, none⟩, x.c, rfl, h.lt.2, by rw [Nat.zero_add]; exact h.tk hx, hg.row, Nat.le_of_succ_le hg.room⟩⟩
/-- 'append(out, l...)' onto nothing. -/
theorem u_cpn {w : World} {pa : Option Addr} {ca H : Nat} {l : List Int} (hA : URow w pa H l) (hl : l.length * 8 ≤ 140737488351232) :
    ∃ v' w', (∀ ty, (Builtin.append_ #[41, 41] ty #[.slice none 0 0, .slice pa l.length ca]).run Tryz.prog w = .ok v' w') ∧ (w'.ownsRow w.heap.size 40 1 v' l.length (uC l) ∧ Below w.heap.size w w') := by
  obtain ⟨i0, hi, hz, hs, hby⟩ := tinfo infoUK
  cases pa with
  | none =>
    have h0 : l = [] := by
      cases l with
      | nil => rfl
      | cons a r =>
        obtain ⟨g, o, e, _⟩ := hA.c 0 a rfl
        cases e
    subst h0
    refine ⟨.slice none 0 0, w, fun ty => ?_, World.ownsRow_nil _ _ _ 1, Below.refl _ _⟩
    have S := Src.ofNil (P := Tryz.prog) (size := i0.size) w Tryz.underlying41 ca
    have hln : ∀ w' : World, (Builtin.lenOf (.slice none 0 ca)).run Tryz.prog w' = .ok 0 w' := S.len
    have hcl : (Builtin.firstCells i0.size 0 (.slice none 0 ca)).run Tryz.prog w = .ok #[] w := S.cells
    simp [Builtin.append_, run_underlying Tryz.underlying41, sizeOf, typeInfo, hi, hln, hcl]
  | some ad =>
    have hr := fun ty => run_append_own_at (P := Tryz.prog) w w.heap.size 41 ty 40 i0 (.int .u64 0) 1 8 Tryz.underlying41 hi hz hs hby rfl (by decide) (.slice none 0 0) 0 [] (World.ownsRow_nil _ _ _ 1) ad l.length ca (uC l) (by simp) hA.news (uC_one l) (by simp only [maxLen]; omega) (by omega) (Nat.le_refl _)
    obtain ⟨v', w', h1, h2, h3, _⟩ := hr 0
    refine ⟨v', w', fun ty => h1, by simpa using h2, ⟨h3.os, h3.tape, h3.output, h3.size, fun k hk => h3.block k hk (by simp [Value.ownBlock])⟩⟩
set_option maxRecDepth 20000 in
theorem spared_any (l : List Int) (pa : Option Addr) (ca H : Nat) (w : World) (hA : URow w pa H l) (hl : l.length * 8 ≤ 140737488351232) :
    Calls Tryz.prog 11 #[.slice pa l.length ca] w fun e w' => ∃ g cap, e = .returned (.slice (some ⟨g, 0, none⟩) l.length cap) ∧ w'.ownsRow w.heap.size 40 1 (.slice (some ⟨g, 0, none⟩) (l.length + 1) cap) (l.length + 1) (uC (l ++ [77])) ∧ Below w.heap.size w w' := by
  obtain ⟨iU, hiU, hzU, hsU, hbU⟩ := tinfo infoUK
  obtain ⟨v2, w2, hrun, hO2, hB2⟩ := u_cpn (ca := ca) hA hl
  have hN2 : ∀ j u, [Value.int .u64 77][j]? = some u → (w2.alloc (.cells #[.int .u64 77] 40)).cell? ((⟨w2.heap.size, 0, none⟩ : Addr).add j) = some u := World.news_of_block (heap_al w2 (.cells #[.int .u64 77] 40))
  have hO3 := ownsRow_below hO2 (bel1 w2 (.cells #[.int .u64 77] 40))
  have hs2 := hB2.size
  replace hB2 : Hid _ := ⟨hB2⟩
  have F1 : Hid (1 = 1) := ⟨rfl⟩
  have F2 : Hid (1 = 1) := ⟨rfl⟩
  go_enter Tryz.func11, Tryz.ntmps11
  go_wp2_with (first
    | (at_builtin; clear F1; go_must (refine (twpList_append_ex (by rfl) _ _ _ _ (by rfl) _ _ (by rfl) (by rfl) (fun a b => v2 = a ∧ w2 = b) ⟨v2, w2, hrun, rfl, rfl⟩ ?_)); rintro _ _ ⟨rfl, rfl⟩)
    | (at_builtin; clear F2; go_must (refine wpList_append_lies _ rfl _ _ 41 rfl w.heap.size 40 iU (.int .u64 0) 1 8 Tryz.underlying41 hiU hzU hsU hbU rfl (by decide) v2 l.length (uC l) rfl hO3 ⟨w2.heap.size, 0, none⟩ 1 1 [.int .u64 77] rfl rfl hN2 (uC_one [77]) (by decide) (by simp only [maxLen]; omega) (by omega) (by simp; omega) (w2.heap.size + 1) (by simp) ?_); intro ga capa w4 hO4 hgr4 hat4 hlt4; have hcap := own_cap hO4 (by omega); have hci : (l.length : Int) ≤ capa := (by omega); replace hO4 : Hid _ := ⟨hO4⟩; have hB4 : Hid (Below w.heap.size w w4) := ⟨hB2.out.trans (((Below.refl _ w2).alloc (by omega) _).grown hgr4 (by simp; omega) (own_ge hO2))⟩; clear hgr4 hat4))
  go_ret
  refine ⟨ga, capa, rfl, ?_, hB4.out⟩
  have h4 := hO4.out
  rwa [show uC l ++ [Value.int .u64 77] = uC (l ++ [77]) by simp [uC]] at h4
end Go.Proofs.YtjjhfiddebmgcaaGreatDoor
namespace Go.Proofs.YtjjhfiddebmgcaaGreatDoor
open Go.ChangeShapes Go.WideShapes Go.ChangeAt Go.RowKit
open J

abbrev spS : ByteArray := ⟨#[115, 112, 97, 114, 101]⟩
set_option maxRecDepth 20000 in
set_option maxHeartbeats 4000000 in
theorem copied12 (f : Fm) (pp : Option Addr) (cp : Nat) (w : World) (hr : TkL w pp w.heap.size f.toks) (hlm : f.toks.length * 192 ≤ 140737488351232) (hcm : ∀ t ∈ f.toks, t.cst.length * 8 ≤ 140737488351232) :
    Calls Tryz.prog 5 #[fmV f pp cp] w fun e w' => ∃ g cap ps, e = .returned (fmV f (some ⟨g, 0, none⟩) cap) ∧ ps.map TkP.t = f.toks ∧ CopS spS w' w.heap.size g cap ps ∧ Below w.heap.size w w' := by
  obtain ⟨iT, hiT, hzT, hsT, hbT⟩ := tinfo infoTkK
  go_enter Tryz.func5, Tryz.ntmps5
  go_wp2_with fail
  have H1 := two_1 w (fmO f pp cp) zFo
  have H2 := two_2 w (fmO f pp cp) zFo
  have HB : Below w.heap.size w ((w.alloc (fmO f pp cp)).alloc zFo) := two_b w _ _
  have HS : ((w.alloc (fmO f pp cp)).alloc zFo).heap.size = w.heap.size + 2 := by simp
  replace hr := (hr.below HB).mono HB.size
  generalize hW0 : (w.alloc (fmO f pp cp)).alloc zFo = W0 at H1 H2 HB HS hr ⊢
  clear hW0
  replace H1 : Hid _ := ⟨H1⟩
  replace H2 : Hid _ := ⟨H2⟩
  go_loopw [3, 4] (fun v i wr => ∃ (k : Nat) (ps : List TkP), k ≤ f.toks.length ∧ i = .int .i64 k ∧ ps.map TkP.t = f.toks.take k ∧ wr.ownsRow W0.heap.size 43 21 v k (tpC ps) ∧ (∀ x ∈ ps, UGood wr W0.heap.size x ∧ some x.g ≠ v.ownBlock) ∧ (ps.map TkP.g).Pairwise (· < ·) ∧ Below W0.heap.size W0 wr) (fun _ i _ => f.toks.length - (RowKit.intOf i).toNat)
  case atStart => exact ⟨0, [], Nat.zero_le _, rfl, rfl, World.ownsRow_nil _ _ _ 21, fun _ h => (by cases h), List.Pairwise.nil, Below.refl _ _⟩
  case round =>
    obtain ⟨k, ps, hk, rfl, hps, hO, hG, hD, hB⟩ := hrel
    have x12 : wr.cell? ⟨w.heap.size, 12, none⟩ = some (.slice pp f.toks.length cp) := ((fm_of H1.out).below (by omega) hB).c12
    by_cases hlt : k < f.toks.length
    · obtain ⟨x, hx⟩ : ∃ x, f.toks[k]? = some x := ⟨f.toks[k], List.getElem?_eq_getElem hlt⟩
      obtain ⟨g, o, pc, cc, rfl, hg, hT, hT1, -, -⟩ := (hr.below hB).at hx
      have hxa := hcm x (List.mem_of_getElem? hx)
      have hll := hlm
      have hsz := hB.size
      have l1 : Hid _ := ⟨hT.load⟩
      have s1 : Hid _ := ⟨fun z hz => st_new wr z hz x pc cc⟩
      have hb1 : Below wr.heap.size wr (wr.alloc (tkO x pc cc)) := bel1 wr _
      have q12 : (wr.alloc (tkO x pc cc)).cell? ⟨wr.heap.size, 12, none⟩ = some (.slice pc x.cst.length cc) := (tk_of (heap_al wr (tkO x pc cc))).c12
      have cS := spared_any x.cst pc cc W0.heap.size _ (hT1.below (hb1.mono hsz)) hxa
      rw [World.size_alloc] at cS
      have hlt2 : (k : Int) < f.toks.length := by omega
      have F3 : Hid (1 = 1) := ⟨rfl⟩
      go_wp2_with (first
        | (guard_target =~ wpList _ _ _ (Oper.mk _ (Op.load 43 _) _ _ _ _ :: _) _ _; go_must (first | refine wpList_ld 43 (.tmp 16) rfl rfl _ _ rfl l1.out ?_ | refine wpList_ld 43 (.tmp 5) rfl rfl _ _ rfl l2.out ?_); simp only [pts])
        | (guard_target =~ wpList _ _ _ (Oper.mk _ (Op.store 43 _ _) _ _ _ _ :: _) _ _; go_must (refine wpList_st 43 (.tmp 5) (.tmp 17) rfl rfl _ _ rfl rfl (s1.out _ rfl) ?_); simp only [pts])
        | (go_at_call 11; refine cS.mono ?_; rintro _ w4 ⟨ga, capa, rfl, hO4, hB4⟩; replace hB4 : Hid _ := ⟨hB4⟩; have hX4 : Hid (w4.heap[wr.heap.size]? = some (tkO x pc cc)) := ⟨(hB4.out.block _ (by omega)).trans (heap_al wr _)⟩; have q24 := (tk_of hX4.out).c12; have qf := froz hX4.out 12; have l2 : Hid _ := ⟨(tk_of (tkO_set (q := some ⟨ga, 0, none⟩) (d := capa) hX4.out)).load⟩; replace hO4 : Hid _ := ⟨hO4⟩; have hB5 : Hid (Below wr.heap.size wr ((w4.setCell ⟨wr.heap.size, 12, none⟩ (.slice (some ⟨ga, 0, none⟩) x.cst.length capa)).alloc (tkO x (some ⟨ga, 0, none⟩) capa))) := ⟨(((bel1 wr (tkO x pc cc)).trans (hB4.out.mono (by omega))).setCell (Nat.le_refl _) _).alloc (by have := hB4.out.size; simp [World.setCell] at this ⊢; omega) _⟩; have hO5 : Hid _ := ⟨ownsRow_below hO hB5.out⟩)
        | (at_builtin; clear F3; go_must (refine wpList_append_lies _ rfl _ _ 28 rfl W0.heap.size 43 iT zTk 21 192 Tryz.underlying28 hiT hzT hsT hbT rfl (by decide) _ k (tpC ps) rfl hO5.out ⟨w4.heap.size, 0, none⟩ 1 1 (tkC x (some ⟨ga, 0, none⟩) capa) rfl rfl (World.news_of_block (heap_al_set w4 ⟨wr.heap.size, 12, none⟩ (.slice (some ⟨ga, 0, none⟩) x.cst.length capa) (tkO x (some ⟨ga, 0, none⟩) capa))) (tkC_one x _ _) (by decide) (by simp only [maxLen]; omega) (by omega) (Nat.le_trans hsz hB5.out.size) _ rfl ?_); intro gn capn w6 hO6 hgr6 hat6 hlt6; replace hO6 : Hid _ := ⟨hO6⟩; replace hgr6 : Hid _ := ⟨hgr6⟩; replace hat6 : Hid _ := ⟨hat6⟩))
      have hga := own_ge hO4.out ga rfl
      have hga2 := (hO4.out.lt ga rfl).2
      have hs4 : wr.heap.size + 1 ≤ w4.heap.size := by have := hB4.out.size; simp at this; omega
      have hs5 : ((w4.setCell ⟨wr.heap.size, 12, none⟩ (.slice (some ⟨ga, 0, none⟩) x.cst.length capa)).alloc (tkO x (some ⟨ga, 0, none⟩) capa)).heap.size = w4.heap.size + 1 := by simp [World.setCell]
      have hg45 : w4.grownBy ((w4.setCell ⟨wr.heap.size, 12, none⟩ (.slice (some ⟨ga, 0, none⟩) x.cst.length capa)).alloc (tkO x (some ⟨ga, 0, none⟩) capa)) (some wr.heap.size) := ⟨rfl, rfl, rfl, by omega, fun j hj hne => by
        rw [heap_alloc_old _ _ (by simpa [World.setCell] using hj)]
        exact heap_setCell_other w4 _ j _ (fun e => hne (by rw [e]))⟩
      have hnew : UGood ((w4.setCell ⟨wr.heap.size, 12, none⟩ (.slice (some ⟨ga, 0, none⟩) x.cst.length capa)).alloc (tkO x (some ⟨ga, 0, none⟩) capa)) W0.heap.size ⟨x, ga, capa⟩ := by
        exact World.ownsRow.kept (own_base hO4.out (fun j hj => by simp [Value.ownBlock] at hj; omega)) hg45 (.inr (by simp [Value.ownBlock]; omega))
      have hmem : ∀ y ∈ ps ++ [(⟨x, ga, capa⟩ : TkP)], UGood w6 W0.heap.size y ∧ some y.g ≠ some gn := by
        intro y hy
        rcases List.mem_append.1 hy with hy | hy
        · have h0 := hG y hy
          have hyl := h0.1.lt
          refine ⟨(h0.1.below hB5.out).kept hgr6.out h0.2, ?_⟩
          rcases hat6.out with e | e
          · rw [← e]; exact h0.2
          · rw [e.trans hs5]; intro e; injection e with e; omega
        · obtain rfl := List.mem_singleton.1 hy
          have hne : some ga ≠ u3.ownBlock := fun e => by have := (hO.lt ga e.symm).2; omega
          refine ⟨hnew.kept hgr6.out hne, ?_⟩
          rcases hat6.out with e | e
          · rw [← e]; exact hne
          · rw [e.trans hs5]; intro e; injection e with e; have e : ga = w4.heap.size + 1 := e; omega
      have hpw : ((ps ++ [(⟨x, ga, capa⟩ : TkP)]).map TkP.g).Pairwise (· < ·) := by
        rw [List.map_append, List.pairwise_append]
        refine ⟨hD, List.pairwise_singleton _ _, fun a ha b hb => ?_⟩
        obtain ⟨y, hy, rfl⟩ := List.mem_map.1 ha
        rw [List.map_singleton, List.mem_singleton] at hb
        have := (hG y hy).1.lt
        rw [hb]
        show y.g < ga
        omega
      have hB6 : Below W0.heap.size W0 w6 := hB.trans ((hB5.out.mono hsz).trans ((Below.refl _ _).grown hgr6.out (Nat.le_trans hsz hB5.out.size) (own_ge hO)))
      have htk : (ps ++ [(⟨x, ga, capa⟩ : TkP)]).map TkP.t = f.toks.take (k + 1) := by
        rw [List.map_append, hps, List.take_add_one, hx]; rfl
      have hO6' := hO6.out
      rw [show tpC ps ++ tkC x (some ⟨ga, 0, none⟩) capa = tpC (ps ++ [(⟨x, ga, capa⟩ : TkP)]) from (tpC_snoc ps ⟨x, ga, capa⟩).symm] at hO6'
      clear hnew hg45 hO5 hO4 hgr6 hat6 hO6 hB5 hB4 hX4 l1 l2 s1 q24 qf hT hT1 hG hD hO
      go_roundw
      case rel => exact ⟨k + 1, _, by omega, by go_num, htk, hO6', hmem, hpw, hB6⟩
      case measure => simp [RowKit.intOf]; omega
    · obtain rfl : k = f.toks.length := by omega
      have hll := hlm
      have hsz := hB.size
      obtain ⟨pv, cv, rfl⟩ := own_slice hO
      have hO1 : Hid _ := ⟨ownsRow_below hO (bel1 wr (tkO (spT spS) none 0))⟩
      have F1 : Hid (1 = 1) := ⟨rfl⟩
      go_wp2_with (first
        | (guard_target =~ wpList _ _ _ (Oper.mk _ (Op.load 30 _) _ _ _ _ :: _) _ _; go_must (refine wpList_ld 30 (.tmp 1) rfl rfl _ _ rfl lF.out ?_); simp only [pts])
        | (guard_target =~ wpList _ _ _ (Oper.mk _ (Op.store 30 _ _) _ _ _ _ :: _) _ _; go_must (refine wpList_st 30 (.tmp 2) (.tmp 36) rfl rfl _ _ rfl rfl sF.out ?_); simp only [pts])
        | (at_builtin; clear F1; go_must (refine wpList_append_lies _ rfl _ _ 28 rfl W0.heap.size 43 iT zTk 21 192 Tryz.underlying28 hiT hzT hsT hbT rfl (by decide) (.slice pv f.toks.length cv) f.toks.length (tpC ps) rfl hO1.out ⟨wr.heap.size, 0, none⟩ 1 1 (tkC (spT spS) none 0) rfl rfl (World.news_of_block (heap_al wr (tkO (spT spS) none 0))) (tkC_one (spT spS) _ _) (by decide) (by simp only [maxLen]; omega) (by omega) (by simp; omega) _ rfl ?_); intro gn capn w6 hO6 hgr6 hat6 hlt6; have hcap := own_cap hO6 (by omega); have hci : (f.toks.length : Int) ≤ capn := (by omega); replace hO6 : Hid _ := ⟨hO6⟩; replace hgr6 : Hid _ := ⟨hgr6⟩; replace hat6 : Hid _ := ⟨hat6⟩; go_must (have hB6 : Hid (Below W0.heap.size W0 w6) := ⟨hB.trans (((bel1 wr (tkO (spT spS) none 0)).mono hsz).trans ((Below.refl _ _).grown hgr6.out (by simp; omega) (own_ge hO)))⟩; have H36 := (hB6.out.block w.heap.size (by omega)).trans H1.out; have H26 := (hB6.out.block (w.heap.size + 1) (by omega)).trans H2.out; have m12 := (fm_of H36).c12; have mf := froz H36 12; have H37 := fmO_set (q := some ⟨gn, 0, none⟩) (d := capn) H36; have lF : Hid _ := ⟨(fm_of H37).load⟩; have H27 := (heap_setCell_other w6 ⟨w.heap.size, 12, none⟩ (w.heap.size + 1) (.slice (some ⟨gn, 0, none⟩) f.toks.length capn) (by simp)).trans H26; have t27 : (w6.setCell ⟨w.heap.size, 12, none⟩ (.slice (some ⟨gn, 0, none⟩) f.toks.length capn)).there (w.heap.size + 1) 0 13 := there_of H27; have sF : Hid _ := ⟨run_storeAt_mid (P := Tryz.prog) (w6.setCell ⟨w.heap.size, 12, none⟩ (.slice (some ⟨gn, 0, none⟩) f.toks.length capn)) (w.heap.size + 1) 0 30 (fmC f (some ⟨gn, 0, none⟩) capn) t27 infoFm (all_oneCell_toArray (fmC_one f _ _))⟩; replace t27 : Hid _ := ⟨t27⟩; clear H37 H27 H36 H26)))
      rw [List.take_length] at hps
      have hpl : ps.length = f.toks.length := by rw [← hps, List.length_map]
      have hsame : ∀ k, W0.heap.size ≤ k → ((w6.setCell ⟨w.heap.size, 12, none⟩ (.slice (some ⟨gn, 0, none⟩) f.toks.length capn)).setCells (w.heap.size + 1) 0 (fmC f (some ⟨gn, 0, none⟩) capn).toList).heap[k]? = w6.heap[k]? := fun k hk =>
        (sets_other (by omega) _ 0 _).trans (heap_setCell_other w6 _ k _ (fun e => by have e : k = w.heap.size := e; omega))
      have hcop : CopS spS ((w6.setCell ⟨w.heap.size, 12, none⟩ (.slice (some ⟨gn, 0, none⟩) f.toks.length capn)).setCells (w.heap.size + 1) 0 (fmC f (some ⟨gn, 0, none⟩) capn).toList) w.heap.size gn capn ps := by
        have hgn := own_ge hO6.out gn rfl
        refine ⟨?_, fun y hy => ?_, hD⟩
        · rw [hpl]
          exact own_kept (own_base hO6.out (fun j hj => by simp [Value.ownBlock] at hj; omega)) (fun j hj => hsame j (by simp [Value.ownBlock] at hj; omega))
        · have h0 := hG y hy
          have hyl := h0.1.lt
          have h1 := (h0.1.below (bel1 wr (tkO (spT spS) none 0))).kept hgr6.out h0.2
          refine ⟨own_kept (own_base h1 (fun j hj => by simp [Value.ownBlock] at hj; omega)) (fun j hj => hsame j (by simp [Value.ownBlock] at hj; omega)), ?_⟩
          rcases hat6.out with e | e
          · intro e2; exact h0.2 (by rw [e2, ← e])
          · rw [e]; simp; omega
      have hend : Below w.heap.size w ((w6.setCell ⟨w.heap.size, 12, none⟩ (.slice (some ⟨gn, 0, none⟩) f.toks.length capn)).setCells (w.heap.size + 1) 0 (fmC f (some ⟨gn, 0, none⟩) capn).toList) := bel_sets (by omega) _ 0 _ ((HB.trans (hB6.out.mono HB.size)).setCell (p := ⟨w.heap.size, 12, none⟩) (Nat.le_refl _) _)
      obtain ⟨d, hu, hd⟩ := undFm
      have hres := run_loadVar_mid (P := Tryz.prog) _ (w.heap.size + 1) 0 30 (fmC f (some ⟨gn, 0, none⟩) capn).toList d (World.rangeAt_setCells_same (w6.setCell ⟨w.heap.size, 12, none⟩ (.slice (some ⟨gn, 0, none⟩) f.toks.length capn)) (w.heap.size + 1) 0 (fmC f (some ⟨gn, 0, none⟩) capn).toList t27.out) hu hd infoFm
      exact bodyPost_ret (results_cell_v rfl _ _ (w.heap.size + 1) _ rfl hres) rfl ⟨gn, capn, rfl, ps, hps, hcop, hend⟩
end Go.Proofs.YtjjhfiddebmgcaaGreatDoor

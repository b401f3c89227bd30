/- Rows of places of one's own. -/
import Derived.Test.YtfikmlckcbnppaaDoorILex
import Derived.Maps.AppendAt
import Derived.Deep.AppendLies
namespace Go.Proofs.YtfikmlckcbnppaaDoor
open Go.ChangeShapes Go.WideShapes Go.ChangeAt Go.RowKit Go.Shelf Go.Maps

theorem nbel (w : World) (o : Obj) : Below w.heap.size w (w.alloc o) := (Below.refl _ _).alloc (Nat.le_refl _) _
theorem thnK (w : World) (o : Obj) : (w.alloc o).heap[w.heap.size]? = some o := by
  show (w.heap.push o)[w.heap.size]? = some o
  simp
def cI (n : Nat) : Value := .int .i64 (n : Int)
/-- A row of places of one's own. -/
def NRow (W : World) (base : Nat) (v : Value) (ns : List Nat) : Prop := W.ownsRow base 3 1 v ns.length (ns.map cI)
theorem own_lower {w : World} {H H' n z : Nat} {ty : TypeId} {v : Value} {xs : List Value} (h : w.ownsRow H ty z v n xs) (hH : H' ≤ H) : w.ownsRow H' ty z v n xs := by
  refine ⟨h.1, ?_⟩
  rcases h.2 with h0 | ⟨g, cap, cur, e, hb', r⟩
  · exact .inl h0
  · exact .inr ⟨g, cap, cur, e, Nat.le_trans hH hb', r⟩
theorem own_keep {W W' : World} {base : Nat} {e : TypeId} {s : Nat} {v : Value} {n : Nat} {xs : List Value} (h : W.ownsRow base e s v n xs) (hb : Below W.heap.size W W') : W'.ownsRow base e s v n xs := by
  refine ⟨h.1, ?_⟩
  rcases h.2 with h0 | ⟨g, cap, cur, rfl, hb', hg, r⟩
  · exact .inl h0
  · exact .inr ⟨g, cap, cur, rfl, hb', (hb.block g (Array.getElem?_eq_some_iff.1 hg).1).trans hg, r⟩
theorem NRow.below {W W' : World} {base : Nat} {v : Value} {ns : List Nat} (h : NRow W base v ns) (hb : Below W.heap.size W W') : NRow W' base v ns := own_keep h hb
theorem NRow.low {W : World} {base base' : Nat} {v : Value} {ns : List Nat} (h : NRow W base v ns) (hB : base' ≤ base) : NRow W base' v ns := own_lower h hB
theorem NRow.nil (W : World) (base : Nat) : NRow W base (.slice none 0 0) [] := World.ownsRow_nil _ _ _ 1
theorem NRow.shape {W : World} {base : Nat} {v : Value} {ns : List Nat} (h : NRow W base v ns) : ∃ pp cp, v = .slice pp ns.length cp ∧ ∀ (i n : Nat), ns[i]? = some n → ∃ g, pp = some ⟨g, 0, none⟩ ∧ g < W.heap.size ∧ W.cell? ⟨g, i, none⟩ = some (.int .i64 (n : Int)) := by
  rcases h.2 with ⟨hv, hn⟩ | ⟨g, cap, cur, hv, _, hg, hc, _, hs, ht⟩
  · refine ⟨none, 0, by rw [hv, hn], fun i n hi => ?_⟩
    rw [List.eq_nil_of_length_eq_zero hn] at hi
    cases hi
  · refine ⟨_, _, hv, fun i n hi => ⟨g, rfl, (Array.getElem?_eq_some_iff.1 hg).1, ?_⟩⟩
    have hi2 : (ns.map cI)[i]? = some (.int .i64 (n : Int)) := by rw [List.getElem?_map, hi]; rfl
    rw [← ht] at hi2
    rw [List.getElem?_take] at hi2
    split at hi2
    · simp only [World.cell?, hg]
      rw [← hi2, Array.getElem?_toList]
      rfl
    · cases hi2
theorem grown_below {H : Nat} {w Wp w' : World} {v : Value} (hW : Below w.heap.size w Wp) (q2 : Wp.grownBy w' v.ownBlock) (hH : H ≤ w.heap.size) (hv : ∀ k, v.ownBlock = some k → H ≤ k) : Below H w w' :=
  ⟨q2.os.trans hW.os, q2.tape.trans hW.tape, q2.output.trans hW.output, Nat.le_trans hW.size q2.size, fun j hj => (q2.block j (by have := hW.size; omega) (fun e => by have := hv j e.symm; omega)).trans (hW.block j (by omega))⟩
theorem infoInt : (Tryd.prog.info? 3).map (fun i => (i.zero, i.size, i.bytes)) = some (some (.int .i64 0), 1, 8) := by kernel_rfl
theorem ap_step {P : Program} {w : World} {ops : Array Oper} {rest : List Oper} {o : Oper} {a : Act} {Q : Exit → Act → World → Prop} (hgd : o.guard = none) (s x : Operand) (t tx : TypeId)
    (ho : o.op = .call { callee := .builtin .append, args := #[s, x], argTypes := #[t, tx] }) (sv xv : Value) (hs : a.eval s = sv) (hx : a.eval x = xv) (Post : Value → World → Prop)
    (hrun : ∃ v w', (∀ ty, (Builtin.append_ #[t, tx] ty #[sv, xv]).run P w = .ok v w') ∧ Post v w')
    (h : ∀ v w', Post v w' → wpList P ops Q rest (a.put o.dst v) w') : wpList P ops Q (o :: rest) a w := by
  obtain ⟨v, w', hr, hp⟩ := hrun
  refine wpList_plain hgd fun _ hK => ?_
  unfold Oper.wp execOp
  simp only [ho, resolve, invoke, builtin, Sem.run_bind, Sem.run_pure, Result.andThen_ok, List.map_toArray, List.map_cons, List.map_nil, hs, hx, hr]
  exact hK _ _ (h v w' hp)
end Go.Proofs.YtfikmlckcbnppaaDoor

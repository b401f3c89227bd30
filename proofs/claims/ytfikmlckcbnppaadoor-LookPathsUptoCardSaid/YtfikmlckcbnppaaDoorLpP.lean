/- Package look's reader: path. -/
import Derived.Test.YtfikmlckcbnppaaDoorLpT
import Derived.Test.YtfikmlckcbnppaaDoorIYn
namespace Go.Proofs.YtfikmlckcbnppaaDoor
open Go.ChangeShapes Go.WideShapes Go.ChangeAt Go.RowKit Go.Shelf Go.Maps

/-- What comes behind a step that ended at b. -/
def conP (s : ByteArray) (k b : Nat) (l : List (ByteArray × Int)) : Option (List (ByteArray × Int)) × Nat := if b = s.size then (some l, 0) else if ch s b = 46 then paP s k (b + 1) l else (none, b)
theorem paP_none {s : ByteArray} {k a b : Nat} {l : List (ByteArray × Int)} (h : stP s a = (none, b)) : paP s (k + 1) a l = (none, b) := by rw [paP, h]
theorem paP_some {s : ByteArray} {k a b : Nat} {l : List (ByteArray × Int)} {x : ByteArray × Int} (h : stP s a = (some x, b)) : paP s (k + 1) a l = conP s k b (l ++ [x]) := by rw [paP, h]; rfl
def spL (l : List (ByteArray × Int)) : List Value := l.flatMap fun x => [.string x.1, .int .i64 x.2]
theorem spL_snoc (l : List (ByteArray × Int)) (x : ByteArray × Int) : spL (l ++ [x]) = spL l ++ [.string x.1, .int .i64 x.2] := by simp [spL]
/-- A list of steps of one's own. -/
def StR (W : World) (B : Nat) (v : Value) (l : List (ByteArray × Int)) : Prop := W.ownsRow B 46 2 v l.length (spL l)
theorem infoSpK : (Tryd.prog.info? 46).map (fun i => (i.zero, i.size, i.bytes)) = some (some (.agg #[.string ⟨#[]⟩, .int .i64 0]), 2, 24) := by kernel_rfl
theorem own_stay {W W' : World} {B z n : Nat} {ty : TypeId} {v : Value} {xs : List Value} (h : W.ownsRow B ty z v n xs) (hb : ∀ g, v.ownBlock = some g → W'.heap[g]? = W.heap[g]?) : W'.ownsRow B ty z v n xs := by
  refine ⟨h.1, ?_⟩
  rcases h.2 with h0 | ⟨g, cap, cur, e, hb', hg, r⟩
  · exact .inl h0
  · exact .inr ⟨g, cap, cur, e, hb', (hb g (by rw [e]; rfl)).trans hg, r⟩
theorem own_slic {W : World} {b e z n : Nat} {v : Value} {xs : List Value} (h : W.ownsRow b e z v n xs) (hn : 0 < n) : ∃ g c, v = .slice (some ⟨g, 0, none⟩) n c := by
  rcases h.2 with ⟨_, e0⟩ | ⟨g, cap, cur, e, -⟩
  · omega
  · exact ⟨_, _, e⟩
/-- One more behind a row of one's own. -/
theorem ap_genP {W : World} {base : Nat} {t e : TypeId} {z : Value} {size bytes n : Nat} {v : Value} {xs : List Value} (ht : Tryd.prog.underlying t = some (.slice e)) (hi : (Tryd.prog.info? e).map (fun i => (i.zero, i.size, i.bytes)) = some (some z, size, bytes)) (hz : z.cells.size = size) (hsz : 0 < size)
    (own : W.ownsRow base e size v n xs) (cs : List Value) (hcs : cs.length = size) (h1 : ∀ u ∈ cs, u.oneCell' = true) (hn : (n + 1) * bytes ≤ 140737488355328) (hn' : n + 1 ≤ 140737488355328) (hbase : base ≤ W.heap.size) :
    ∃ v' w', (∀ ty, (Builtin.append_ #[t, t] ty #[v, .slice (some ⟨W.heap.size, 0, none⟩) 1 1]).run Tryd.prog (W.alloc (.cells cs.toArray e)) = .ok v' w') ∧ (w'.ownsRow base e size v' (n + 1) (xs ++ cs) ∧ Below base W w' ∧ (∀ j, j < W.heap.size → v.ownBlock ≠ some j → w'.heap[j]? = W.heap[j]?) ∧ ∀ k, v'.ownBlock = some k → v.ownBlock = some k ∨ W.heap.size ≤ k) := by
  obtain ⟨i0, hi0, hz0⟩ := Option.map_eq_some_iff.1 hi
  simp only [Prod.mk.injEq] at hz0
  have hB := nbel W (.cells cs.toArray e)
  have hO := own_keep own hB
  have hN : ∀ (j : Nat) (u : Value), cs[j]? = some u → (W.alloc (.cells cs.toArray e)).cell? ((⟨W.heap.size, 0, none⟩ : Addr).add j) = some u := World.news_of_block (thnK W _)
  have hs : (W.alloc (.cells cs.toArray e)).heap.size = W.heap.size + 1 := World.size_alloc _ _
  have hr := run_append_own_at (P := Tryd.prog) (W.alloc (.cells cs.toArray e)) base t 0 e i0 z size bytes ht hi0 hz0.1 hz0.2.1 hz0.2.2 hz hsz v n xs hO ⟨W.heap.size, 0, none⟩ 1 1 cs (by rw [hcs, Nat.one_mul]) hN h1 (by simp only [maxLen]; omega) hn (by omega)
  obtain ⟨v', w', q1, q2, q3, _, q5⟩ := hr
  refine ⟨v', w', fun _ => q1, q2, grown_below hB q3 hbase (fun j hj => (own.lt j hj).1), fun j hj hn => (q3.block j (by omega) (fun e => hn e.symm)).trans (hB.block j hj), fun k hk => ?_⟩
  rcases q5 with q5 | q5
  · exact .inl (by rw [← q5]; exact hk)
  · rw [q5] at hk
    cases hk
    exact .inr (by omega)
end Go.Proofs.YtfikmlckcbnppaaDoor

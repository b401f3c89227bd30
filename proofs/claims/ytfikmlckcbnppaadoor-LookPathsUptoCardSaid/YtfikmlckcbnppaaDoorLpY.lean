/- The law's kept, of what stayed. -/
import Derived.Test.YtfikmlckcbnppaaDoorLpX
namespace Go.Proofs.YtfikmlckcbnppaaDoor
open Go.ChangeShapes Go.WideShapes Go.ChangeAt Go.RowKit Go.Shelf Go.Maps

theorem sameWords_nil (pa pb : Option Addr) (ca cb : Nat) (w : World) : Calls Tryd.prog 20 #[.slice pa 0 ca, .slice pb 0 cb] w fun e w' => e = .returned (.bool true) ∧ w' = w := by
  go_enter Tryd.func20, Tryd.ntmps20
  go_wp2_with fail
  go_loopw [5] (fun q wr => q = .int .i64 0 ∧ wr = w) (fun _ _ => 0)
  case atStart => exact ⟨rfl, rfl⟩
  case round =>
    obtain ⟨rfl, rfl⟩ := hrel
    go_wp2_with fail
    go_ret
    exact ⟨rfl, rfl⟩
theorem ownC {w : World} {b e z n : Nat} {g m c : Nat} {xs : List Value} (h : w.ownsRow b e z (.slice (some ⟨g, 0, none⟩) m c) n xs) {k : Nat} {v : Value} (hk : xs[k]? = some v) : w.cell? ⟨g, k, none⟩ = some v := by
  have := World.ownsRow.cells h (g := g) rfl k v hk
  rwa [addrI, Nat.zero_add] at this
theorem OwnA.sp {W : World} {B : Nat} {l : List (ByteArray × Int)} {g1 c1 g2 c2 g3 c3 g4 c4 : Nat} (h : OwnA W B l g1 c1 g2 c2 g3 c3 g4 c4) : SpRow W (some ⟨g3, 0, none⟩) W.heap.size l :=
  ⟨fun i x hx => by
    have hi := (List.getElem?_eq_some_iff.1 hx).1
    have hs := spL_get l i x hx
    have hl := spL_len l
    refine ⟨g3, 0, rfl, (h.p.lt g3 rfl).2, ?_, ?_⟩
    · rw [Nat.zero_add]; exact ownC h.p (by rw [List.getElem?_append_left (by omega)]; exact hs.1)
    · rw [Nat.zero_add]; exact ownC h.p (by rw [List.getElem?_append_left (by omega)]; exact hs.2)⟩
theorem OwnA.below {W W' : World} {B : Nat} {l : List (ByteArray × Int)} {g1 c1 g2 c2 g3 c3 g4 c4 : Nat} (h : OwnA W B l g1 c1 g2 c2 g3 c3 g4 c4) (hb : Below W.heap.size W W') : OwnA W' B l g1 c1 g2 c2 g3 c3 g4 c4 := h.stay (Nat.le_refl _) fun k _ hk => hb.block k hk
theorem SpRow.mono {w : World} {pp : Option Addr} {H H' : Nat} {l : List (ByteArray × Int)} (h : SpRow w pp H l) (hh : H ≤ H') : SpRow w pp H' l :=
  ⟨fun i x hx => by obtain ⟨g, o, e, hg, r⟩ := h.c i x hx; exact ⟨g, o, e, by omega, r⟩⟩
set_option maxRecDepth 20000 in
set_option maxHeartbeats 2000000 in
theorem kept_any (l : List (ByteArray × Int)) (pp : Option Addr) (cp B : Nat) {g1 c1 g2 c2 g3 c3 g4 c4 : Nat} (w : World) (hO : OwnA w B l g1 c1 g2 c2 g3 c3 g4 c4) (hr : SpRow w pp w.heap.size l) (hl : l.length ≤ 1048576) : Calls Tryd.prog 11 #[.agg (owV l g1 c1 g2 c2 g3 c3 g4 c4), .agg (askC nilS nilS (.slice pp l.length cp) nilS)] w fun e w' => e = .returned (.bool true) ∧ Below w.heap.size w w' := by
  obtain ⟨W, hW0⟩ : ∃ W, W = (w.alloc (.cells (owV l g1 c1 g2 c2 g3 c3 g4 c4) 40)).alloc (aqO nilS nilS (.slice pp l.length cp) nilS) := ⟨_, rfl⟩
  have hs0 : W.heap.size = w.heap.size + 1 + 1 := by rw [hW0]; simp
  have hB : Below w.heap.size w W := by rw [hW0]; exact (bel1 w _).trans ((bel1 _ _).mono (bel1 w (.cells (owV l g1 c1 g2 c2 g3 c3 g4 c4) 40)).size)
  have hy : W.heap[w.heap.size]? = some (.cells (owV l g1 c1 g2 c2 g3 c3 g4 c4) 40) := by rw [hW0]; exact ((bel1 _ _).block _ (by simp)).trans (heap_al w _)
  have hx : W.heap[w.heap.size + 1]? = some (aqO nilS nilS (.slice pp l.length cp) nilS) := by rw [hW0]; have := heap_al (w.alloc (.cells (owV l g1 c1 g2 c2 g3 c3 g4 c4) 40)) (aqO nilS nilS (.slice pp l.length cp) nilS); simpa using this
  have OW := hO.below hB
  have cS := sameSteps_any l (some ⟨g3, 0, none⟩) pp c3 cp W OW.sp ((hr.below hB).mono hB.size) hl
  have y12 : W.cell? ⟨w.heap.size, 12, none⟩ = some (.slice (some ⟨g1, 0, none⟩) 0 c1) := cell_at hy 12
  have y13 : W.cell? ⟨w.heap.size, 13, none⟩ = some (.slice (some ⟨g2, 0, none⟩) 0 c2) := cell_at hy 13
  have y15 : W.cell? ⟨w.heap.size, 15, none⟩ = some (.slice (some ⟨g3, 0, none⟩) l.length c3) := cell_at hy 15
  have y16 : W.cell? ⟨w.heap.size, 16, none⟩ = some (.slice (some ⟨g4, 0, none⟩) 0 c4) := cell_at hy 16
  have x12 : W.cell? ⟨w.heap.size + 1, 12, none⟩ = some nilS := cell_at hx 12
  have x13 : W.cell? ⟨w.heap.size + 1, 13, none⟩ = some nilS := cell_at hx 13
  have x15 : W.cell? ⟨w.heap.size + 1, 15, none⟩ = some (.slice pp l.length cp) := cell_at hx 15
  have x16 : W.cell? ⟨w.heap.size + 1, 16, none⟩ = some nilS := cell_at hx 16
  have r1 : W.cell? ⟨g1, 1, none⟩ = some (.string spareS) := ownC OW.t rfl
  have r2 : W.cell? ⟨g2, 0, none⟩ = some (.int .u8 201) := ownC OW.b rfl
  have r3 : W.cell? ⟨g3, l.length * 2, none⟩ = some (.string spareS) := ownC OW.p (by rw [← spL_len, List.getElem?_append_right (Nat.le_refl _), Nat.sub_self]; rfl)
  have r4 : W.cell? ⟨g4, 0, none⟩ = some (.int .u64 77) := ownC OW.w rfl
  have hw1 : IntKind.i64.wrap ((l.length : Int) + 1) = (l.length : Int) + 1 := by rw [IntKind.wrap_i64]; omega
  have k1 : (1 : Int) ≤ c1 := by have := hO.k1; omega
  have k2 : (1 : Int) ≤ c2 := by have := hO.k2; omega
  have k3 : (l.length : Int) + 1 ≤ c3 := by have := hO.k3; omega
  have k4 : (1 : Int) ≤ c4 := by have := hO.k4; omega
  have hli : (l.length : Int) < (l.length : Int) + 1 := by omega
  have K : Hid (∀ W', Below W.heap.size W W' → W'.cell? ⟨w.heap.size, 16, none⟩ = some (.slice (some ⟨g4, 0, none⟩) 0 c4) ∧ W'.cell? ⟨w.heap.size + 1, 16, none⟩ = some nilS ∧ Below w.heap.size w W') := ⟨fun W' h => ⟨(h.cell (p := ⟨w.heap.size, 16, none⟩) (by show w.heap.size < _; omega)).trans y16, (h.cell (p := ⟨w.heap.size + 1, 16, none⟩) (by show w.heap.size + 1 < _; omega)).trans x16, hB.trans (h.mono hB.size)⟩⟩
  have hW : _ = W := hW0.symm
  simp only [aqO, askC, owV] at hW
  clear hW0 hs0 hB hy hx OW hO hr
  go_enter Tryd.func11, Tryd.ntmps11
  go_wp2_with fail
  go_loopw [9] (fun q wr => q = .int .i64 0 ∧ wr = W) (fun _ _ => 0)
  case atStart => exact ⟨rfl, rfl⟩
  case round =>
    obtain ⟨rfl, rfl⟩ := hrel
    go_wp2_with (first
      | (go_at_call 10; refine cS.mono ?_; rintro _ w1 ⟨rfl, hb1⟩; obtain ⟨u1, u2, hbE⟩ := K.out w1 hb1; replace hbE : Hid _ := ⟨hbE⟩; clear hb1 K)
      | (go_at_call 20; refine (sameWords_nil _ _ _ _ _).mono ?_; rintro _ _ ⟨rfl, rfl⟩))
    go_ret
    exact ⟨rfl, hbE.out⟩
end Go.Proofs.YtfikmlckcbnppaaDoor

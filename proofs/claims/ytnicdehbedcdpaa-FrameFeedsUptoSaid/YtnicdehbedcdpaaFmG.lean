/- New, Split. -/
import Derived.Test.YtnicdehbedcdpaaFmF
import Derived.Lib.ConvBytes
namespace Go.Proofs.Ytnicdehbedcdpaa
open Go.ChangeShapes Go.WideShapes Go.ChangeAt Go.RowKit

/-- '[]byte(t)'. -/
theorem conv_bytes (t : ByteArray) (W : World) : (convert 9 33 (.string t)).run Try.prog W = .ok (.slice (some ⟨W.heap.size, 0, none⟩) t.size (grownCap W t.size 0 5)) (Lib.bytesWorld W 5 t) :=
  Lib.run_convert_string_bytes W 9 33 5 t Try.underlying9 Try.underlying33 Try.underlying5
theorem Rwb.conv (t : ByteArray) (W : World) {B : Nat} (hB : B ≤ W.heap.size) : Rwb (Lib.bytesWorld W 5 t) B (.slice (some ⟨W.heap.size, 0, none⟩) t.size (grownCap W t.size 0 5)) (lOf t) := by
  have ge := grownCap_ge W t.size 0 5
  have hl := lOf_length t
  refine .inr ⟨W.heap.size, _, by rw [hl], hB, by rw [Lib.bytesWorld_size]; omega, by omega, fun j x hj => ?_⟩
  have hj2 := (List.getElem?_eq_some_iff.1 hj).1
  rw [Lib.bytesWorld_cell W _ _ j (by omega)]
  have : ch t j = x := by rw [ch_lOf]; simp [List.getD, hj]
  rw [← this]
  rfl
theorem bytes_below (w : World) (t : ByteArray) : Below w.heap.size w (Lib.bytesWorld w 5 t) := ⟨rfl, rfl, rfl, by rw [Lib.bytesWorld_size]; omega, fun k hk => Lib.bytesWorld_at_old w _ t k hk⟩
theorem own_mono {W : World} {base base' : Nat} {e : TypeId} {s : Nat} {v : Value} {n : Nat} {xs : List Value} (h : W.ownsRow base e s v n xs) (hB : base' ≤ base) : W.ownsRow base' e s v n xs := by
  refine ⟨h.1, ?_⟩
  rcases h.2 with h0 | ⟨g, cap, cur, e, hb, r⟩
  · exact .inl h0
  · exact .inr ⟨g, cap, cur, e, by omega, r⟩
theorem New_any (lim : Int) (w : World) : Calls Try.prog 9 #[.int .i64 lim] w fun e w' => e = .returned (.pointer (some ⟨w.heap.size, 0, none⟩)) ∧ w' = w.alloc (.cells #[.slice none 0 0, .int .i64 0, .int .i64 lim, .int .i64 0] 62) := by
  go_enter Try.func9, Try.ntmps9
  go_wp2
  go_ret
  exact ⟨rfl, rfl⟩
theorem cellA {W : World} {g : Nat} {cs : Array Value} {t : TypeId} {f : Nat × Nat} (h : W.heap[g]? = some (.cells cs t f)) (o : Nat) : W.cell? ⟨g, o, none⟩ = cs[o]? := by
  simp only [World.cell?, h]
  rfl
theorem frozA {W : World} {g : Nat} {cs : Array Value} {t : TypeId} (h : W.heap[g]? = some (.cells cs t (0, 0))) (o : Nat) : W.frozen? ⟨g, o, none⟩ = false := by
  simp only [World.frozen?, h]
  simp
theorem Fr.new {w : World} {B : Nat} (lim : Int) (hB : B ≤ w.heap.size) : Fr (w.alloc (.cells #[.slice none 0 0, .int .i64 0, .int .i64 lim, .int .i64 0] 62)) B w.heap.size (.slice none 0 0) [] 0 lim 0 := by
  have h := heap_nw w (.cells #[.slice none 0 0, .int .i64 0, .int .i64 lim, .int .i64 0] 62)
  exact ⟨(cellA h 0).trans rfl, (cellA h 1).trans rfl, (cellA h 2).trans rfl, (cellA h 3).trans rfl, frozA h, .inl ⟨rfl, rfl⟩, Nat.le_refl _, by simp [Value.ownBlock], (fun b hb => by cases hb), by simp, hB, by rw [World.size_alloc]; omega⟩
/-- Other bytes. -/
theorem Fr.put {w : World} {B R : Nat} {v v2 : Value} {L L2 : List Nat} {fr : Nat} {lim er : Int} (h : Fr w B R v L fr lim er) (hb : Rwb w B v2 L2) (hn : v2.ownBlock ≠ some R) (hL : fr ≤ L2.length) (hy : ∀ b ∈ L2, b < 256) (hl : L2.length ≤ 281474976710656) : Fr (w.setCell ⟨R, 0, none⟩ v2) B R v2 L2 fr lim er := by
  obtain ⟨a, b, _, d⟩ := h.set 0 v2
  exact ⟨World.cell?_setCell_same w ⟨R, 0, none⟩ _ h.c0, a 1 _ (by decide) h.c1, a 2 _ (by decide) h.c2, a 3 _ (by decide) h.c3, b, hb.same fun k hk => Below.heap_setCell _ _ _ _ (fun e => hn (by rw [hk, e])), hL, hn, hy, hl, h.lo, d⟩
/-- What Split answers. -/
def SplP (w : World) (c : List Pcl × Nat × Int) (e : Ending) (w' : World) : Prop :=
  ∃ pv, e = .returned (.tuple #[pv, .int .i64 (c.2.1 : Int), .int .i64 c.2.2]) ∧ POwn w' w.heap.size pv c.1 ∧ Below w.heap.size w w'
set_option maxHeartbeats 2000000 in
theorem Split_any (lim : Int) (s : ByteArray) (w : World) (hs : s.size ≤ 281474976710656) (hn : (cutZ lim (lOf s)).1.length ≤ 4398046511103) :
    Calls Try.prog 14 #[.int .i64 lim, .string s] w (SplP w (cutZ lim (lOf s))) := by
  have hb0 := bel1 w (.cells #[.slice none 0 0, .int .i64 0, .int .i64 lim, .int .i64 0] 62)
  have hF0 := Fr.new (w := w) (B := w.heap.size) lim (Nat.le_refl _)
  have hz : (w.alloc (.cells #[.slice none 0 0, .int .i64 0, .int .i64 lim, .int .i64 0] 62)).heap.size = w.heap.size + 1 := by rw [World.size_alloc]
  generalize hw1 : w.alloc (.cells #[.slice none 0 0, .int .i64 0, .int .i64 lim, .int .i64 0] 62) = w1 at hb0 hF0 hz
  have hc := conv_bytes s w1
  have hb1 := bytes_below w1 s
  have hR1 := Rwb.conv s w1 (B := w.heap.size) hb0.size
  have hF1 := hF0.below hb1
  have hz1 := Lib.bytesWorld_size w1 5 s
  generalize Lib.bytesWorld w1 5 s = w2 at *
  have hF2 := hF1.put hR1 (by simp [Value.ownBlock]; omega) (Nat.zero_le _) (lOf_lt s) (by rw [lOf_length]; exact hs)
  have hcut := cut_any hF2 (by rw [List.drop_zero]; exact hn)
  rw [List.drop_zero] at hcut
  have k0 := hF1.c0
  have kf := hF1.fz 0
  have hB2 : Below w.heap.size w (w2.setCell ⟨w.heap.size, 0, none⟩ (.slice (some ⟨w1.heap.size, 0, none⟩) s.size (grownCap w1 s.size 0 5))) := by
    have h := (hb0.trans (hb1.mono (by omega)))
    exact ⟨h.os, h.tape, h.output, by simp [World.setCell]; omega, fun k hk => (Below.heap_setCell _ _ _ _ (by show k ≠ w.heap.size; omega)).trans (h.block k hk)⟩
  rw [hz] at hcut hB2 hc
  generalize cutZ lim (lOf s) = C at *
  have hzs : w.heap.size ≤ (w2.setCell ⟨w.heap.size, 0, none⟩ (.slice (some ⟨w.heap.size + 1, 0, none⟩) s.size (grownCap w1 s.size 0 5))).heap.size := hB2.size
  clear hb0 hF0 hb1 hR1 hF1 hF2 hs hn
  go_enter Try.func14, Try.ntmps14
  go_wp2_with (first
    | (go_at_call 9; refine (New_any _ _).mono ?_; rintro _ _ ⟨rfl, rfl⟩; rw [hw1])
    | (go_at_call 30; refine hcut.mono ?_; rintro _ w3 ⟨pv, rfl, hO, hG, hK⟩))
  have g1 := hG.c1
  have hzz := hK.size
  go_quiet (fail)
  go_wp2_with fail
  refine bodyPost_ret (v := .tuple #[pv, .int .i64 (C.2.1 : Int), .int .i64 C.2.2]) (by simp [results, Try.results14, go_sem]) rfl ⟨pv, rfl, own_mono (ownSame hO fun _ _ => rfl) hzs, below_drewN (hB2.trans (hK.below (Nat.le_refl _) hzs)) _⟩
end Go.Proofs.Ytnicdehbedcdpaa

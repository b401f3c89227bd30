/- The document's answer: a text made small. -/
import Derived.Test.YtchfphakhmifmabGreatDoorXB2
namespace Go.Proofs.YtchfphakhmifmabGreatDoor
open Go.ChangeShapes Go.WideShapes Go.ChangeAt Go.RowKit Go.Shelf Go.Lib

def lowN (c : Nat) : Nat := if 65 ≤ c ∧ c ≤ 90 then c + 32 else c
def lowB (s : ByteArray) : ByteArray := sOf ((lOf s).map lowN)
/-- The bytes that are made small, up to a place. -/
structure LR (w : World) (G : Nat) (s : ByteArray) (k : Nat) : Prop where
  c : ∀ j, j < s.size → w.cell? ⟨G, j, none⟩ = some (.int .u8 ((if j < k then lowN (ch s j) else ch s j : Nat) : Int))
  fz : ∀ j, j < s.size → w.frozen? ⟨G, j, none⟩ = false
  lt : G < w.heap.size
theorem LR.of (w : World) (s : ByteArray) : LR (bytesWorld w 5 s) w.heap.size s 0 :=
  ⟨fun j hj => by rw [bytesWorld_cell w _ s j hj, if_neg (Nat.not_lt_zero _)]; rfl,
   fun j hj => by
    have hz : s.size ≤ (bytesCells w 5 s).size := by unfold bytesCells; rw [Array.size_append, Array.size_map]; exact Nat.le_add_right _ _
    simp [World.frozen?, bytesWorld_at_new]
    omega,
   by rw [bytesWorld_size]; omega⟩
theorem LR.next {w : World} {G : Nat} {s : ByteArray} {k : Nat} (h : LR w G s k) (hn : lowN (ch s k) = ch s k) : LR w G s (k + 1) :=
  ⟨fun j hj => by
    rw [h.c j hj]
    by_cases e : j = k
    · subst e; rw [if_neg (Nat.lt_irrefl _), if_pos (Nat.lt_succ_self _), hn]
    · by_cases l : j < k
      · rw [if_pos l, if_pos (by omega)]
      · rw [if_neg l, if_neg (by omega)], h.fz, h.lt⟩
theorem LR.put {w : World} {G : Nat} {s : ByteArray} {k : Nat} (h : LR w G s k) (hk : k < s.size) (z : Int) (hz : z = (lowN (ch s k) : Int)) : LR (w.setCell ⟨G, k, none⟩ (.int .u8 z)) G s (k + 1) :=
  ⟨fun j hj => by
    by_cases e : j = k
    · subst e; rw [if_pos (Nat.lt_succ_self _), ← hz]; exact World.cell?_setCell_same w ⟨G, j, none⟩ _ (h.c j hj)
    · rw [World.cell?_setCell_other w _ _ _ (fun q => e (by injection q with _ q2; exact q2.symm)), h.c j hj]
      by_cases l : j < k
      · rw [if_pos l, if_pos (by omega)]
      · rw [if_neg l, if_neg (by omega)],
   fun j hj => by rw [World.frozen?_setCell]; exact h.fz j hj, by simpa [World.setCell] using h.lt⟩
theorem LR.conv {w : World} {G : Nat} {s : ByteArray} (h : LR w G s s.size) (cap : Nat) : (convert 59 9 (.slice (some ⟨G, 0, none⟩) s.size cap)).run Tryz.prog w = .ok (.string (lowB s)) w := by
  have hl : ((lOf s).map lowN).length = s.size := by rw [List.length_map, lOf_length]
  have := run_convert_bytes_arg w 59 5 Tryz.underlying59 Tryz.underlying5 G 0 s.size cap (((lOf s).map lowN).map Int.ofNat) (by rw [List.length_map, hl]) (fun i hi => by
    rw [Nat.zero_add, h.c i hi, if_pos hi, ch_lOf]
    simp [List.getD, lOf_length, hi]) 9 Tryz.underlying9
  have e : strOfNums (((lOf s).map lowN).map Int.ofNat) = lowB s := by
    unfold strOfNums lowB sOf
    simp [Function.comp_def]
  rw [this, e]
set_option maxRecDepth 100000 in
set_option maxHeartbeats 4000000 in
theorem rlower (s : ByteArray) (w : World) (hs : s.size ≤ 4611686018427387904) : Calls Tryz.prog 132 #[.string s] w fun e w' => e = .returned (.string (lowB s)) ∧ Below w.heap.size w w' := by
  have hc := conv_bytes s w
  have h0 := LR.of w s
  have hb := Lib.bytesWorld_below w 5 s
  generalize bytesWorld w 5 s = w0 at *
  go_enter Tryz.func132, Tryz.ntmps132
  go_wp2_with fail
  go_loopw [9] (fun i wr => ∃ k : Nat, k ≤ s.size ∧ i = .int .i64 k ∧ Below w.heap.size w wr ∧ LR wr w.heap.size s k) (fun i _ => s.size - (RowKit.intOf i).toNat)
  case atStart => exact ⟨0, Nat.zero_le _, rfl, hb, h0⟩
  case round =>
    obtain ⟨k, hk, rfl, hB, hL⟩ := hrel
    by_cases hlt : k < s.size
    · have hlt2 : (k : Int) < s.size := by omega
      have c0 := hL.c k hlt
      have f0 := hL.fz k hlt
      rw [if_neg (Nat.lt_irrefl _)] at c0
      by_cases hq : 65 ≤ ch s k ∧ ch s k ≤ 90
      · have hn : lowN (ch s k) = ch s k + 32 := if_pos hq
        have q1 : (65 : Int) ≤ (ch s k : Int) := by omega
        have q2 : (ch s k : Int) ≤ 90 := by omega
        have hp := hL.put hlt ((ch s k : Int) + 32) (by rw [hn]; rfl)
        generalize ch s k = c at *
        go_wp2_with fail
        refine ⟨⟨k + 1, hlt, rfl, hB.setCell (Nat.le_refl _) _, hp⟩, ?_⟩
        simp only [RowKit.intOf]; omega
      · have hn : lowN (ch s k) = ch s k := if_neg hq
        have hp := hL.next hn
        generalize ch s k = c at *
        by_cases q1 : 65 ≤ c
        · have q2 : (65 : Int) ≤ (c : Int) := by omega
          have q3 : ¬ (c : Int) ≤ 90 := by omega
          clear hn hq
          go_wp2_with fail
          refine ⟨⟨k + 1, hlt, rfl, hB, hp⟩, ?_⟩
          simp only [RowKit.intOf]; omega
        · have q2 : ¬ (65 : Int) ≤ (c : Int) := by omega
          clear hn hq
          go_wp2_with fail
          refine ⟨⟨k + 1, hlt, rfl, hB, hp⟩, ?_⟩
          simp only [RowKit.intOf]; omega
    · obtain rfl : k = s.size := by omega
      have hz : ¬ (s.size : Int) < s.size := by omega
      have hcv := fun c => hL.conv c
      go_wp2_with fail
      go_ret
      exact ⟨rfl, hB⟩
end Go.Proofs.YtchfphakhmifmabGreatDoor

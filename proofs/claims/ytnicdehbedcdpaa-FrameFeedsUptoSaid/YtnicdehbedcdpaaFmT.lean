/- parcels. -/
import Derived.Test.YtnicdehbedcdpaaFmS
import Derived.Test.YtnicdehbedcdpaaFmM
namespace Go.Proofs.Ytnicdehbedcdpaa
open Go.ChangeShapes Go.WideShapes Go.ChangeAt Go.RowKit

/-- A good parcel out of any. -/
def gdP (p : Pcl) : Pcl := ⟨if p.t.tmod 2 = 0 then 23520 else 60240, if 300 < p.b.size then p.b.extract 0 300 else p.b⟩
theorem gdP_gd (p : Pcl) : Gd (gdP p) := by
  constructor
  · unfold gdP
    dsimp only
    split
    · exact .inl rfl
    · exact .inr rfl
  · unfold gdP
    dsimp only
    split
    · rw [size_ext _ _ _ (by omega)]; omega
    · omega
set_option maxHeartbeats 2000000 in
theorem parcels_any (l : List Pcl) (pp : Option Addr) (cp : Nat) (w : World) (hR : PRow w pp w.heap.size l) (hl : l.length ≤ 9223372036854775000) :
    Calls Try.prog 7 #[.slice pp l.length cp] w fun e w' => ∃ v, e = .returned v ∧ POwn w' w.heap.size v ((l.take 40).map gdP) ∧ Below w.heap.size w w' := by
  generalize hn : l.length = n at hl ⊢
  obtain ⟨FL, hFL0⟩ : ∃ FL, FL = (l.take 40).map gdP := ⟨_, rfl⟩
  rw [← hFL0]
  have hFL : Go.RowKit.Hid (FL = (l.take 40).map gdP) := hFL0
  clear hFL0
  go_enter Try.func7, Try.ntmps7
  go_wp2_with fail
  go_loopw [3, 4] (fun v i wr => ∃ j : Nat, j ≤ n ∧ j ≤ 40 ∧ i = .int .i64 (j : Int) ∧ POwn wr w.heap.size v ((l.take j).map gdP) ∧ Below w.heap.size w wr) (fun _ i _ => 40 - (intOf i).toNat)
  case atStart => exact ⟨0, Nat.zero_le _, by decide, rfl, World.ownsRow_nil _ _ _ _, Below.refl _ _⟩
  case round =>
    obtain ⟨j, hj, hj2, rfl, hO, hB⟩ := hrel
    by_cases hlt : j < n
    · by_cases hlt2 : j < 40
      · have hx : l[j]? = some l[j] := List.getElem?_eq_getElem (by omega)
        obtain ⟨g, o, rfl, hg, q0, q1⟩ := hR.c j _ hx
        have r0 := (hB.cell (p := ⟨g, o + j * 2, none⟩) hg).trans q0
        have r1 := (hB.cell (p := ⟨g, o + j * 2 + 1, none⟩) hg).trans q1
        have hzz := hB.size
        have ra : ∀ ob, (wr.alloc ob).cell? ⟨g, o + j * 2, none⟩ = some (.int .i64 l[j].t) := fun ob => ((bel1 wr ob).cell (p := ⟨g, o + j * 2, none⟩) (by show g < _; omega)).trans r0
        have ht : (l.take (j + 1)).map gdP = (l.take j).map gdP ++ [gdP l[j]] := by rw [List.take_succ_eq_append_getElem (by omega), List.map_append]; rfl
        have hjl : ((l.take j).map gdP).length = j := by rw [List.length_map, List.length_take]; omega
        have b1 := fun (c : Value) (d : Value) => bel1 wr (.cells #[c, d] 36)
        generalize hp : l[j] = p at *
        have hlti : (j : Int) < (n : Int) := by omega
        have hlti2 : (j : Int) < 40 := by omega
        have hb2 : ∀ c d, Below w.heap.size wr (wr.alloc (.cells #[c, d] 36)) := fun c d => (b1 c d).mono hzz
        have hap : ∀ (t' : Int) (b' : ByteArray), _ := fun t' b' => p_ap (W := wr.alloc (.cells #[.int .i64 t', .string b'] 36)) (p := ⟨t', b'⟩) (hO.below (b1 _ _)) (by omega) (Nat.le_trans hzz (b1 _ _).size)
        simp only [World.size_alloc] at hap
        by_cases h2 : p.t.tmod 2 = 0
        · by_cases h3 : 300 < p.b.size
          · have h3i : (300 : Int) < (p.b.size : Int) := by omega
            have hgd : gdP p = ⟨23520, p.b.extract 0 300⟩ := by unfold gdP; rw [if_pos h2, if_pos h3]
            have hap := hap 23520 (p.b.extract 0 300)
            rw [hgd] at ht
            clear hR q0 q1 b1 hgd
            go_wp2_with (at_builtin; go_must (refine (wpList_append_ex (by rfl) _ _ _ _ (by rfl) _ _ (by rfl) (by rfl) _ hap ?_)); rintro v' w' ⟨hO', hB', _, _⟩)
            exact ⟨⟨j + 1, by omega, by omega, by go_num, by rw [ht]; exact hO', hB.trans ((hb2 _ _).trans hB')⟩, by simp [intOf]; omega⟩
          · have h3i : ¬ (300 : Int) < (p.b.size : Int) := by omega
            have hgd : gdP p = ⟨23520, p.b⟩ := by unfold gdP; rw [if_pos h2, if_neg h3]
            have hap := hap 23520 (p.b)
            rw [hgd] at ht
            clear hR q0 q1 b1 hgd
            go_wp2_with (at_builtin; go_must (refine (wpList_append_ex (by rfl) _ _ _ _ (by rfl) _ _ (by rfl) (by rfl) _ hap ?_)); rintro v' w' ⟨hO', hB', _, _⟩)
            exact ⟨⟨j + 1, by omega, by omega, by go_num, by rw [ht]; exact hO', hB.trans ((hb2 _ _).trans hB')⟩, by simp [intOf]; omega⟩
        · have hb3 : (p.t.tmod 2 == 0) = false := beq_eq_false_iff_ne.2 h2
          have hb4 : (p.t.tmod 2 != 0) = true := by rw [bne, hb3]; rfl
          by_cases h3 : 300 < p.b.size
          · have h3i : (300 : Int) < (p.b.size : Int) := by omega
            have hgd : gdP p = ⟨60240, p.b.extract 0 300⟩ := by unfold gdP; rw [if_neg h2, if_pos h3]
            have hap := hap 60240 (p.b.extract 0 300)
            rw [hgd] at ht
            clear hR q0 q1 b1 hgd
            go_wp2_with (at_builtin; go_must (refine (wpList_append_ex (by rfl) _ _ _ _ (by rfl) _ _ (by rfl) (by rfl) _ hap ?_)); rintro v' w' ⟨hO', hB', _, _⟩)
            exact ⟨⟨j + 1, by omega, by omega, by go_num, by rw [ht]; exact hO', hB.trans ((hb2 _ _).trans hB')⟩, by simp [intOf]; omega⟩
          · have h3i : ¬ (300 : Int) < (p.b.size : Int) := by omega
            have hgd : gdP p = ⟨60240, p.b⟩ := by unfold gdP; rw [if_neg h2, if_neg h3]
            have hap := hap 60240 (p.b)
            rw [hgd] at ht
            clear hR q0 q1 b1 hgd
            go_wp2_with (at_builtin; go_must (refine (wpList_append_ex (by rfl) _ _ _ _ (by rfl) _ _ (by rfl) (by rfl) _ hap ?_)); rintro v' w' ⟨hO', hB', _, _⟩)
            exact ⟨⟨j + 1, by omega, by omega, by go_num, by rw [ht]; exact hO', hB.trans ((hb2 _ _).trans hB')⟩, by simp [intOf]; omega⟩
      · obtain rfl : j = 40 := by omega
        have hlti : ((40 : Nat) : Int) < (n : Int) := by omega
        clear hR
        go_wp2_with fail
        go_ret
        exact ⟨_, rfl, by rw [show FL = _ from hFL]; exact hO, hB⟩
    · obtain rfl : j = n := by omega
      have hlti : ¬ (j : Int) < (j : Int) := by omega
      have e : l.take 40 = l.take j := by rw [List.take_of_length_le (by omega), List.take_of_length_le (by omega)]
      rw [← e] at hO
      clear hR e
      go_wp2_with fail
      go_ret
      exact ⟨_, rfl, by rw [show FL = _ from hFL]; exact hO, hB⟩
end Go.Proofs.Ytnicdehbedcdpaa

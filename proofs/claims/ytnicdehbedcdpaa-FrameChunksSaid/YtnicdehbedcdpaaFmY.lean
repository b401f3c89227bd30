/- A stream in chunks: the mathematics; a Feed of one. -/
import Derived.Test.YtnicdehbedcdpaaFmW
import Derived.Test.YtnicdehbedcdpaaFmR
namespace Go.Proofs.Ytnicdehbedcdpaa
open Go.ChangeShapes Go.WideShapes Go.ChangeAt Go.RowKit

/-- What is held behind m bytes. -/
def rsL (G : List Pcl) (m : Nat) : List Nat := (strm (G.drop (jN G m))).take (m - szs (G.take (jN G m)))
theorem szs_drop (G : List Pcl) (k : Nat) : szs (G.drop k) + szs (G.take k) = szs G := by
  have := szs_append (G.take k) (G.drop k)
  rw [List.take_append_drop] at this
  omega
theorem rsL_length (G : List Pcl) (m : Nat) (hm : m ≤ szs G) : (rsL G m).length = m - szs (G.take (jN G m)) := by
  unfold rsL
  have := szs_drop G (jN G m)
  rw [List.length_take, strm_length]
  omega
theorem jN_add : ∀ (G : List Pcl) (m n : Nat), jN G (m + n) = jN G m + jN (G.drop (jN G m)) (m + n - szs (G.take (jN G m)))
  | [], m, n => by simp [jN]
  | p :: r, m, n => by
    by_cases h : szP p ≤ m
    · have e : jN (p :: r) m = jN r (m - szP p) + 1 := by rw [jN, if_pos h]
      have e2 : jN (p :: r) (m + n) = jN r (m + n - szP p) + 1 := by rw [jN, if_pos (by omega)]
      have ih := jN_add r (m - szP p) n
      rw [e, e2, List.drop_succ_cons, List.take_succ_cons, szs_cons, show m + n - szP p = m - szP p + n by omega, ih]
      have : m - szP p + n - szs (List.take (jN r (m - szP p)) r) = m + n - (szP p + szs (List.take (jN r (m - szP p)) r)) := by omega
      rw [this]
      omega
    · have e : jN (p :: r) m = 0 := by rw [jN, if_neg h]
      rw [e, List.drop_zero, List.take_zero, Nat.zero_add]
      rfl
theorem take_drop_add (G : List Pcl) (k j : Nat) : G.take (k + j) = G.take k ++ (G.drop k).take j := List.take_add
/-- One chunk more. -/
theorem rs_step (G : List Pcl) (m n : Nat) : rsL G m ++ ((strm G).drop m).take n = (strm (G.drop (jN G m))).take (m + n - szs (G.take (jN G m))) := by
  have h1 := jN_szs G m
  have e : (strm G).drop m = (strm (G.drop (jN G m))).drop (m - szs (G.take (jN G m))) := by
    have : strm G = strm (G.take (jN G m)) ++ strm (G.drop (jN G m)) := by rw [← strm_append, List.take_append_drop]
    rw [this, List.drop_append, strm_length, List.drop_eq_nil_of_le (by rw [strm_length]; exact h1), List.nil_append]
  rw [e]
  unfold rsL
  rw [show m + n - szs (G.take (jN G m)) = (m - szs (G.take (jN G m))) + n by omega, List.take_add]
theorem rs_cut (G : List Pcl) (hG : ∀ p ∈ G, Gd p) (m n : Nat) (hm : m + n ≤ szs G) :
    cutZ (lgZ G : Int) (rsL G m ++ ((strm G).drop m).take n) = ((G.drop (jN G m)).take (jN G (m + n) - jN G m), szs (G.take (jN G (m + n))) - szs (G.take (jN G m)), 0) ∧ fdL (lgZ G : Int) (rsL G m ++ ((strm G).drop m).take n) = rsL G (m + n) := by
  have h1 := jN_szs G m
  have hd := szs_drop G (jN G m)
  have ha := jN_add G m n
  have hj : jN G (m + n) - jN G m = jN (G.drop (jN G m)) (m + n - szs (G.take (jN G m))) := by omega
  have hc := cut_strm (lgZ G : Int) (G.drop (jN G m)) (m + n - szs (G.take (jN G m))) (fun p hp => ⟨hG p (List.mem_of_mem_drop hp), by have := lgZ_le (List.mem_of_mem_drop hp); omega⟩) (by omega)
  have hs : szs (G.take (jN G (m + n))) = szs (G.take (jN G m)) + szs ((G.drop (jN G m)).take (jN G (m + n) - jN G m)) := by
    rw [← szs_append, ← take_drop_add]
    congr 2
    omega
  rw [rs_step G m n]
  rw [← hj] at hc
  have hcut : cutZ (lgZ G : Int) ((strm (G.drop (jN G m))).take (m + n - szs (G.take (jN G m)))) = ((G.drop (jN G m)).take (jN G (m + n) - jN G m), szs (G.take (jN G (m + n))) - szs (G.take (jN G m)), 0) := by
    rw [hc]
    congr 2
    omega
  refine ⟨hcut, ?_⟩
  unfold fdL
  rw [hcut, if_pos rfl]
  show ((strm (G.drop (jN G m))).take (m + n - szs (G.take (jN G m)))).drop (szs (G.take (jN G (m + n))) - szs (G.take (jN G m))) = rsL G (m + n)
  unfold rsL
  rw [List.drop_take]
  have e : (strm (G.drop (jN G m))).drop (szs (G.take (jN G (m + n))) - szs (G.take (jN G m))) = strm (G.drop (jN G (m + n))) := by
    have e1 : G.drop (jN G m) = (G.drop (jN G m)).take (jN G (m + n) - jN G m) ++ G.drop (jN G (m + n)) := by
      conv => lhs; rw [← List.take_append_drop (jN G (m + n) - jN G m) (G.drop (jN G m))]
      rw [List.drop_drop, show jN G m + (jN G (m + n) - jN G m) = jN G (m + n) by omega]
    rw [e1, strm_append, List.drop_left' (by rw [strm_length]; omega)]
  rw [e]
  have := jN_szs G (m + n)
  congr 1
  omega
/-- No more is needed than tells it: no parcel is whole yet. -/
theorem need_no (G : List Pcl) (hG : ∀ p ∈ G, Gd p) (m n : Nat) (hm : m + n ≤ szs G) (hn : (n : Int) < ndZ (rsL G m) 0) : jN G (m + n) = jN G m := by
  have ha := jN_add G m n
  have h1 := jN_szs G m
  have hd := szs_drop G (jN G m)
  have hl := rsL_length G m (by omega)
  have hz : jN (G.drop (jN G m)) (m + n - szs (G.take (jN G m))) = 0 := by
    cases hD : G.drop (jN G m) with
    | nil => rfl
    | cons p r =>
      have hp : G[jN G m]? = some p := by
        have : (G.drop (jN G m))[0]? = some p := by rw [hD]; rfl
        rw [List.getElem?_drop] at this
        exact this
      have hlt := jN_next G m p hp
      have hgp : Gd p := hG p (List.mem_of_getElem? hp)
      have h6 : 6 ≤ szP p := by unfold szP; omega
      unfold ndZ at hn
      rw [if_neg (by simp), hl] at hn
      have hlow : m + n - szs (G.take (jN G m)) < szP p := by
        by_cases h4 : m - szs (G.take (jN G m)) < 4
        · rw [if_pos h4] at hn
          omega
        · rw [if_neg h4] at hn
          have hln : lnZ (rsL G m) = szP p := by
            unfold lnZ rsL
            rw [hD, strm_cons, List.take_append_of_le_length (by rw [frP_length]; omega), List.take_take, Nat.min_eq_left (by omega)]
            have hs : szP p < 4294967296 := by have := hgp.b; unfold szP; omega
            exact hd_ln (szP p) p.t.toNat (lOf p.b) hs
          rw [hln] at hn
          omega
      rw [jN, if_neg (by omega)]
  omega
theorem rsL_lt (G : List Pcl) (m : Nat) : ∀ b ∈ rsL G m, b < 256 := fun b hb => strm_lt _ b (List.mem_of_mem_take hb)
theorem jN_all : ∀ (G : List Pcl), jN G (szs G) = G.length
  | [] => rfl
  | p :: r => by
    have := jN_all r
    rw [jN, szs_cons, if_pos (by omega), show szP p + szs r - szP p = szs r by omega, this]
    rfl
/-- A Feed of the next n bytes. -/
theorem feed_step {w : World} {B R : Nat} {v : Value} {G : List Pcl} {m n : Nat} (hG : ∀ p ∈ G, Gd p) (hGl : G.length ≤ 40) (hm : m + n ≤ szs G) (h : Fr w B R v (rsL G m) 0 (lgZ G : Int) 0) (hb : Buf w B v (rsL G m)) :
    Calls Try.prog 12 #[.pointer (some ⟨R, 0, none⟩), .slice (some ⟨w.heap.size, 0, none⟩) (((strm G).drop m).take n).length (grownCap w (((strm G).drop m).take n).length 0 5)] (Lib.bytesWorld w 5 (sOf (((strm G).drop m).take n))) fun e w' =>
      ∃ pp cp v', e = .returned (.tuple #[.slice pp (jN G (m + n) - jN G m) cp, .int .i64 0]) ∧ PRow w' pp w'.heap.size ((G.drop (jN G m)).take (jN G (m + n) - jN G m)) ∧ Fr w' B R v' (rsL G (m + n)) 0 (lgZ G : Int) 0 ∧ Buf w' B v' (rsL G (m + n)) ∧ Kx R v.ownBlock w w' := by
  obtain ⟨hc, hf⟩ := rs_cut G hG m n hm
  have hsz := szs_bd G hG
  have hl : (rsL G m).length + (((strm G).drop m).take n).length ≤ 140737488355328 := by
    rw [rsL_length G m (by omega), List.length_take, List.length_drop, strm_length]
    omega
  refine (Feed_conv h hb hl (fun b hb => strm_lt G b (List.mem_of_mem_drop (List.mem_of_mem_take hb))) (by rw [hc]; show (List.take _ _).length ≤ _; rw [List.length_take, List.length_drop]; omega)).mono fun e w' => ?_
  unfold FeedP
  rw [hf, hc]
  rintro ⟨pv, v', rfl, h1, h2, h3, h4, _, _⟩
  obtain ⟨pp, cp, rfl, hr⟩ := h1.shape
  have hln : ((G.drop (jN G m)).take (jN G (m + n) - jN G m)).length = jN G (m + n) - jN G m := by
    rw [List.length_take, List.length_drop]
    have := jN_le G (m + n)
    omega
  dsimp only at hr h2 h3 ⊢
  exact ⟨pp, cp, v', by rw [hln], hr, h2, h3, h4⟩
end Go.Proofs.Ytnicdehbedcdpaa

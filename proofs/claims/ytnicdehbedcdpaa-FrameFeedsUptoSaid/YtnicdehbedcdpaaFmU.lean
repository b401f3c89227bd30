/- stream. -/
import Derived.Test.YtnicdehbedcdpaaFmT
import Derived.Test.YtnicdehbedcdpaaFmN
namespace Go.Proofs.Ytnicdehbedcdpaa
open Go.ChangeShapes Go.WideShapes Go.ChangeAt Go.RowKit

theorem wrap_gd {p : Pcl} (h : Gd p) : wrapZ p = (sOf (frP p), 0) := by
  have hb := h.b
  have e : headZ p.t p.b.size = (sOf (hdL (szP p) p.t.toNat), 0) := by
    unfold headZ
    rw [if_neg (by rw [h.kn]; simp), if_neg (by omega)]
    rfl
  unfold wrapZ
  rw [e, if_pos rfl]
  unfold frP
  rw [sOf_append, sOf_lOf]
/-- The longest frame. -/
def lgZ (l : List Pcl) : Nat := l.foldl (fun m p => max m (szP p)) 6
theorem lgZ_snoc (l : List Pcl) (p : Pcl) : lgZ (l ++ [p]) = max (lgZ l) (szP p) := by unfold lgZ; rw [List.foldl_append]; rfl
theorem lgF_le : ∀ (l : List Pcl) (m : Nat), m ≤ l.foldl (fun m p => max m (szP p)) m ∧ ∀ p ∈ l, szP p ≤ l.foldl (fun m p => max m (szP p)) m
  | [], m => ⟨Nat.le_refl _, fun p hp => by cases hp⟩
  | q :: r, m => by
    obtain ⟨h1, h2⟩ := lgF_le r (max m (szP q))
    rw [List.foldl_cons]
    refine ⟨by omega, fun p hp => ?_⟩
    rcases List.mem_cons.1 hp with rfl | hp
    · omega
    · exact h2 p hp
theorem lgF_at : ∀ (l : List Pcl) (m : Nat), l.foldl (fun m p => max m (szP p)) m = m ∨ ∃ p ∈ l, szP p = l.foldl (fun m p => max m (szP p)) m
  | [], m => .inl rfl
  | q :: r, m => by
    rw [List.foldl_cons]
    rcases lgF_at r (max m (szP q)) with h | ⟨p, hp, h⟩
    · rw [h]
      by_cases hm : szP q ≤ m
      · exact .inl (by omega)
      · exact .inr ⟨q, List.mem_cons_self .., by omega⟩
    · exact .inr ⟨p, List.mem_cons_of_mem _ hp, h⟩
theorem lgZ_le {l : List Pcl} {p : Pcl} (h : p ∈ l) : szP p ≤ lgZ l := (lgF_le l 6).2 p h
theorem lgZ_6 (l : List Pcl) : 6 ≤ lgZ l := (lgF_le l 6).1
theorem lgZ_bd {l : List Pcl} (h : ∀ p ∈ l, Gd p) : lgZ l ≤ 306 := by
  rcases lgF_at l 6 with e | ⟨p, hp, e⟩
  · unfold lgZ; omega
  · have := (h p hp).b
    unfold lgZ
    unfold szP at e
    unfold szP
    omega
theorem szs_bd : ∀ (l : List Pcl), (∀ p ∈ l, Gd p) → szs l ≤ 306 * l.length
  | [], _ => by simp [szs]
  | p :: r, h => by
    have := szs_bd r fun q hq => h q (List.mem_cons_of_mem _ hq)
    have hb := (h p (List.mem_cons_self ..)).b
    rw [szs_cons, List.length_cons]
    unfold szP
    omega
theorem chS (L : List Nat) (hL : ∀ b ∈ L, b < 256) (i : Nat) : ch (sOf L) i = L.getD i 0 := by rw [ch_lOf, lOf_sOf L hL]
set_option maxHeartbeats 4000000 in
set_option maxRecDepth 100000 in
theorem stream_any (l : List Pcl) (pp : Option Addr) (cp : Nat) (w : World) (hR : PRow w pp w.heap.size l) (hg : ∀ p ∈ l, Gd p) (hl : l.length ≤ 40) :
    Calls Try.prog 8 #[.slice pp l.length cp] w fun e w' => e = .returned (.tuple #[.string (sOf (strm l)), .int .i64 ((lgZ l : Nat) : Int), .bool true]) ∧ Below w.heap.size w w' := by
  generalize hn : l.length = n at hl ⊢
  go_enter Try.func8, Try.ntmps8
  go_wp2_with fail
  go_loopw [5, 6, 7] (fun v m i wr => ∃ j : Nat, j ≤ n ∧ i = .int .i64 (j : Int) ∧ m = .int .i64 ((lgZ (l.take j) : Nat) : Int) ∧ Buf wr w.heap.size v (strm (l.take j)) ∧ Below w.heap.size w wr) (fun _ _ i _ => n - (intOf i).toNat)
  case atStart => exact ⟨0, Nat.zero_le _, rfl, rfl, Buf.nil _ _, Below.refl _ _⟩
  case round =>
    obtain ⟨j, hj, rfl, rfl, hO, hB⟩ := hrel
    by_cases hlt : j < n
    · have hx : l[j]? = some l[j] := List.getElem?_eq_getElem (by omega)
      have hgp := hg l[j] (List.getElem_mem (by omega))
      obtain ⟨g, o, rfl, hg1, q0, q1⟩ := hR.c j _ hx
      have hzz := hB.size
      have ht : l.take (j + 1) = l.take j ++ [l[j]] := List.take_succ_eq_append_getElem (by omega)
      have hlg : lgZ (l.take j) ≤ 306 := lgZ_bd fun p hp => hg p (List.mem_of_mem_take hp)
      generalize hp : l[j] = p at *
      have r0 := (hB.cell (p := ⟨g, o + j * 2, none⟩) hg1).trans q0
      have r1 := (hB.cell (p := ⟨g, o + j * 2 + 1, none⟩) hg1).trans q1
      have hw := Wrap_any p wr (by have := hgp.b; omega)
      rw [wrap_gd hgp] at hw
      have hpb := hgp.b
      have hsz : szP p = p.b.size + 6 := rfl
      have hfl := frP_lt p
      have hfn : (sOf (frP p)).size = szP p := by rw [sOf_size, frP_length]
      have hlti : (j : Int) < (n : Int) := by omega
      have hE : (sOf (frP p)).extract 6 (p.b.size + 6) = p.b := by
        apply lOf_inj
        rw [lOf_extract, lOf_sOf _ hfl]
        have : (frP p).drop 6 = lOf p.b := by unfold frP; rfl
        rw [this, List.take_of_length_le (by rw [lOf_length]; omega)]
      have hdx : ∀ (i x : Nat), i < 6 → (hdL (szP p) p.t.toNat)[i]? = some x → ∀ W : World, (Instr.index 9 (.string (sOf (frP p))) (.int .i64 (i : Int))).run Try.prog W = .ok (.int .u8 (x : Int)) W := fun i x hi hx W => by
        have := idx (w := W) (sOf (frP p)) i (by rw [hfn]; omega) .i64
        rw [this, chS _ hfl]
        have e : (frP p)[i]? = some x := by unfold frP; rw [List.getElem?_append_left (by show i < 6; exact hi)]; exact hx
        simp [List.getD, e]
      have z0 : szP p / 16777216 % 256 = 0 := by omega
      have z1 : szP p / 65536 % 256 = 0 := by omega
      obtain ⟨A, hA⟩ : ∃ A, szP p / 256 % 256 = A := ⟨_, rfl⟩
      obtain ⟨A2, hA2⟩ : ∃ A, szP p % 256 = A := ⟨_, rfl⟩
      obtain ⟨T, hT⟩ : ∃ A, p.t.toNat / 256 % 256 = A := ⟨_, rfl⟩
      obtain ⟨T2, hT2⟩ : ∃ A, p.t.toNat % 256 = A := ⟨_, rfl⟩
      have hAA : (A : Int) * 256 + (A2 : Int) = (p.b.size : Int) + 6 := by omega
      have hTT : (T : Int) * 256 + (T2 : Int) = p.t := by have := hgp.toNat; omega
      have x0 : ∀ W : World, (Instr.index 9 (.string (sOf (frP p))) (.int .i64 0)).run Try.prog W = .ok (.int .u8 0) W := fun W => by
        have := hdx 0 _ (by decide) rfl W
        rw [z0] at this
        exact this
      have x1 : ∀ W : World, (Instr.index 9 (.string (sOf (frP p))) (.int .i64 1)).run Try.prog W = .ok (.int .u8 0) W := fun W => by
        have := hdx 1 _ (by decide) rfl W
        rw [z1] at this
        exact this
      have x2 : ∀ W : World, (Instr.index 9 (.string (sOf (frP p))) (.int .i64 2)).run Try.prog W = .ok (.int .u8 (A : Int)) W := fun W => by
        have := hdx 2 _ (by decide) rfl W
        rw [hA] at this
        exact this
      have x3 : ∀ W : World, (Instr.index 9 (.string (sOf (frP p))) (.int .i64 3)).run Try.prog W = .ok (.int .u8 (A2 : Int)) W := fun W => by
        have := hdx 3 _ (by decide) rfl W
        rw [hA2] at this
        exact this
      have x4 : ∀ W : World, (Instr.index 9 (.string (sOf (frP p))) (.int .i64 4)).run Try.prog W = .ok (.int .u8 (T : Int)) W := fun W => by
        have := hdx 4 _ (by decide) rfl W
        rw [hT] at this
        exact this
      have x5 : ∀ W : World, (Instr.index 9 (.string (sOf (frP p))) (.int .i64 5)).run Try.prog W = .ok (.int .u8 (T2 : Int)) W := fun W => by
        have := hdx 5 _ (by decide) rfl W
        rw [hT2] at this
        exact this
      have hAl : A < 256 ∧ A2 < 256 ∧ T < 256 ∧ T2 < 256 := by omega
      have w1' : IntKind.i64.wrap ((A : Int) * 256) = (A : Int) * 256 := by rw [IntKind.wrap_i64]; omega
      have w2' : IntKind.i64.wrap ((T : Int) * 256) = (T : Int) * 256 := by rw [IntKind.wrap_i64]; omega
      have w3' : IntKind.i64.wrap ((A : Int) * 256 + (A2 : Int)) = (p.b.size : Int) + 6 := by rw [IntKind.wrap_i64]; omega
      have w4' : IntKind.i64.wrap ((T : Int) * 256 + (T2 : Int)) = p.t := by rw [hTT, IntKind.wrap_i64]; have := hgp.t; omega
      have hOs := fun (W : World) v (h : Buf W w.heap.size v (strm (l.take j))) (hz : w.heap.size ≤ W.heap.size) => tbufStr h (sOf (frP p)) (by rw [hfn, strm_length]; have := szs_bd (l.take j) (fun q hq => hg q (List.mem_of_mem_take hq)); rw [List.length_take] at this; omega) hz
      rw [lOf_sOf _ hfl] at hOs
      have hst : strm (l.take (j + 1)) = strm (l.take j) ++ frP p := by rw [ht, strm_append]; unfold strm; simp
      have hlg2 : lgZ (l.take (j + 1)) = max (lgZ (l.take j)) (szP p) := by rw [ht, lgZ_snoc]
      clear hR q0 q1 hg hdx hA hA2 hT hT2 z0 z1 hTT ht
      go_wp2_with (go_at_call 19; refine hw.mono ?_; rintro _ w1 ⟨rfl, hb⟩; have hO := hO.below hb; have r0 := (hb.cell (p := ⟨g, o + j * 2, none⟩) (by show g < _; omega)).trans r0; have r1 := (hb.cell (p := ⟨g, o + j * 2 + 1, none⟩) (by show g < _; omega)).trans r1; have hB := hB.trans (hb.mono hzz); clear hb)
      rw [hsz] at hfn
      generalize sOf (frP p) = S at *
      have h6a : 6 ≤ S.size := by omega
      have h6b : (6 : Int) ≤ (p.b.size : Int) + 6 := by omega
      have h6c : 6 ≤ p.b.size + 6 := by omega
      go_quiet ((go_at_call 13; exact Calls.quiet_of_same (num_any _ _)))
      have hBd := below_drewN hB nq
      have hap := hOs (w1.drewN nq) _ (hO.below (below_drewN (Below.refl _ _) nq)) hBd.size
      clear hOs hO hB x0 x1 x2 x3 x4 x5 hAA hE h6a h6b h6c w1' w2' w3' w4' hAl r0 r1
      have hmx : ((max (lgZ (l.take j)) (p.b.size + 6) : Nat) : Int) = max ((lgZ (l.take j) : Nat) : Int) ((p.b.size : Int) + 6) := by omega
      rw [hsz] at hlg2
      generalize lgZ (l.take j) = G0 at *
      go_wp2_with (at_builtin; go_must (refine (wpList_append_ex (by rfl) _ _ _ _ (by rfl) _ _ (by rfl) (by rfl) _ hap ?_)); rintro v' w' ⟨q1, q2, _, _⟩)
      refine ⟨⟨j + 1, by omega, by go_num, ?_, by rw [hst]; exact q1, hBd.trans q2⟩, by simp [intOf]; omega⟩
      rw [hlg2]
      congr 1
      split <;> omega
    · obtain rfl : j = n := by omega
      have hlti : ¬ (j : Int) < (j : Int) := by omega
      rw [List.take_of_length_le (by omega)] at hO ⊢
      have hcv := hO.conv
      clear hR hg
      go_wp2_with fail
      refine bodyPost_ret (v := .tuple #[.string (sOf (strm l)), .int .i64 ((lgZ l : Nat) : Int), .bool true]) (by simp [results, Try.results8, go_sem]) rfl ⟨rfl, hB⟩
end Go.Proofs.Ytnicdehbedcdpaa

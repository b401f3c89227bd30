/- The document's Place. -/
import Derived.Test.YtjdinlgbfpkodaaLLaw
namespace Go.Proofs.Ytjdinlgbfpkodaa
open Go.ChangeShapes Go.WideShapes Go.ChangeAt Go.RowKit Go.Shelf

theorem placeZ_blk {l : List Rm} {b : Int} (h : blkErr b ≠ 0) : placeZ l b = ⟨[], 0, blkErr b, l.length⟩ := by
  unfold placeZ fillZ
  rw [if_neg h]
theorem placeZ_err {l : List Rm} {b er : Int} {j : Nat} (h : blkErr b = 0) (hf : fillR 0 l s0 0 = .error (er, j)) : placeZ l b = ⟨[], 0, er, j⟩ := by
  unfold placeZ fillZ
  rw [if_pos h, hf]
theorem placeZ_ok {l : List Rm} {b : Int} {s : St} (h : blkErr b = 0) (hf : fillR 0 l s0 0 = .ok s) : placeZ l b = if sayB b s.e < s.e then ⟨[], 0, 71, l.length⟩ else ⟨s.off, sayB b s.e, 0, 0⟩ := by
  unfold placeZ fillZ
  rw [if_pos h, hf]
  dsimp only
  by_cases k : sayB b s.e < s.e
  · rw [if_pos k, if_pos k]
  · rw [if_neg k, if_neg k]
theorem fillR_err {k : Nat} {x : Rm} {r : List Rm} {s : St} {i : Nat} {Z : Except (Int × Nat) St} {er : Int} (h : fillR k (x :: r) s i = Z) (he : layErr x s.e = er) (hn : er ≠ 0) : Z = .error (er, i) := by
  rw [← h]
  simp only [fillR]
  rw [if_neg (by rw [he]; exact hn), he]
theorem fillR_ok {k : Nat} {x : Rm} {r : List Rm} {s : St} {i : Nat} {Z : Except (Int × Nat) St} (h : fillR k (x :: r) s i = Z) (he : layErr x s.e = 0) : fillR k r (stp k s x) (i + 1) = Z := by
  rw [← h]
  simp only [fillR]
  rw [if_pos he]
set_option maxRecDepth 100000 in
set_option maxHeartbeats 8000000 in
theorem refPlace_any (l : List Rm) (pp : Option Addr) (cp : Nat) (b : Int) (w : World) (hr : SlR w pp w.heap.size l) (hl : l.length ≤ 8796093021952) (hx : ∀ x ∈ l, x.ok) :
    Calls Try.prog 15 #[.slice pp l.length cp, .int .i64 b] w fun r w' => ∃ v, r = .returned (.tuple #[v, .int .i64 (placeZ l b).n, .int .i64 (placeZ l b).er, .int .i64 ((placeZ l b).who : Int)]) ∧ ZOwn w' w.heap.size v (placeZ l b).off ∧ Below w.heap.size w w' := by
  by_cases b1 : b < -1
  · have hb : blkErr b = 73 := by unfold blkErr; rw [if_pos b1]
    rw [placeZ_blk (by rw [hb]; decide), hb]
    go_enter Try.func15, Try.ntmps15
    go_wp2_with fail
    exact bodyPost_ret (v := .tuple #[nilS, .int .i64 0, .int .i64 73, .int .i64 (l.length : Int)]) (by simp [results, Try.results15, go_sem]) rfl ⟨_, rfl, World.ownsRow_nil _ _ _ 1, Below.refl _ _⟩
  by_cases b2 : 65535 < b
  · have hb : blkErr b = 72 := by unfold blkErr; rw [if_neg b1, if_pos b2]
    rw [placeZ_blk (by rw [hb]; decide), hb]
    go_enter Try.func15, Try.ntmps15
    go_wp2_with fail
    exact bodyPost_ret (v := .tuple #[nilS, .int .i64 0, .int .i64 72, .int .i64 (l.length : Int)]) (by simp [results, Try.results15, go_sem]) rfl ⟨_, rfl, World.ownsRow_nil _ _ _ 1, Below.refl _ _⟩
  have hb : blkErr b = 0 := by unfold blkErr; rw [if_neg b1, if_neg b2]
  obtain ⟨Z, hZ⟩ : ∃ Z, placeZ l b = Z := ⟨_, rfl⟩
  rw [hZ]
  go_enter Try.func15, Try.ntmps15
  go_wp2_with fail
  go_loopw [8, 9, 10] (fun v e n wr => ∃ (j : Nat) (s : St), j ≤ l.length ∧ n = .int .i64 j ∧ e = .int .i64 s.e ∧ ZOwn wr w.heap.size v s.off ∧ StOk s j ∧ Below w.heap.size w wr ∧ fillR 0 (l.drop j) s j = fillR 0 l s0 0) (fun _ _ n _ => l.length - (RowKit.intOf n).toNat)
  case atStart => exact ⟨0, s0, Nat.zero_le _, by go_num, by go_num, World.ownsRow_nil _ _ _ 1, ⟨by decide, by decide, Nat.le_refl _, Nat.le_refl _⟩, Below.refl _ _, rfl⟩
  case round =>
    obtain ⟨j, s, hj, rfl, rfl, hO, hS, hB, hR⟩ := hrel
    by_cases hlt : j < l.length
    · obtain ⟨x, hxj⟩ : ∃ x, l[j]? = some x := ⟨l[j], List.getElem?_eq_getElem hlt⟩
      have hxk := hx x (List.mem_of_getElem? hxj)
      obtain ⟨g, o, rfl, hg, q0, q1⟩ := (hr.row.below hB).c j x hxj
      rw [drop_at hxj] at hR
      have hlti : (j : Int) < l.length := by omega
      obtain ⟨⟨z1, z2⟩, z3, z4⟩ := hxk
      have hS2 := hS
      obtain ⟨⟨e1, e2⟩, _, hoff, _⟩ := hS2
      obtain ⟨pv, cv, hv, _⟩ := hO.shape
      obtain ⟨sz, of⟩ := x
      have hal := bel1 wr (.cells #[.int .i64 sz, .int .i64 of] 35)
      have HB : Hid (Below w.heap.size w (wr.alloc (.cells #[.int .i64 sz, .int .i64 of] 35))) := Hid.mk <| hB.trans (hal.mono hB.size)
      have hle : ∀ er, layErr ⟨sz, of⟩ s.e = er → er ≠ 0 → Z = ⟨[], 0, er, j⟩ := fun er h1 h2 => by rw [← hZ]; exact placeZ_err hb (fillR_err hR h1 h2)
      simp only at q0 q1 z1 z2 z3 z4
      clear hx hr hxj
      by_cases k1 : sz < 0
      · skip
        have hz := hle 73 (by unfold layErr layFrom; dsimp only; rw [if_pos (.inl k1)]) (by decide)
        subst hz
        subst hv
        clear hle hR hS hO hB hal
        go_wp2_with fail
        exact bodyPost_ret (v := .tuple #[nilS, .int .i64 0, .int .i64 73, .int .i64 (j : Int)]) (by simp [results, Try.results15, go_sem]) rfl ⟨_, rfl, World.ownsRow_nil _ _ _ 1, HB.out⟩
      by_cases k2 : of < -1
      · skip
        have hz := hle 73 (by unfold layErr layFrom; dsimp only; rw [if_neg (show ¬ of = -1 by omega), if_pos (.inr (by omega))]) (by decide)
        subst hz
        subst hv
        clear hle hR hS hO hB hal
        go_wp2_with fail
        exact bodyPost_ret (v := .tuple #[nilS, .int .i64 0, .int .i64 73, .int .i64 (j : Int)]) (by simp [results, Try.results15, go_sem]) rfl ⟨_, rfl, World.ownsRow_nil _ _ _ 1, HB.out⟩
      by_cases k3 : of = -1
      · subst k3
        by_cases k5 : 65535 < sz
        · skip
          have hz := hle 72 (by unfold layErr layFrom; dsimp only; rw [if_pos rfl, if_neg (by omega), if_neg (by omega), if_pos (by omega)]) (by decide)
          subst hz
          subst hv
          clear hle hR hS hO hB hal
          go_wp2_with fail
          exact bodyPost_ret (v := .tuple #[nilS, .int .i64 0, .int .i64 72, .int .i64 (j : Int)]) (by simp [results, Try.results15, go_sem]) rfl ⟨_, rfl, World.ownsRow_nil _ _ _ 1, HB.out⟩
        by_cases k6 : 65535 < s.e + sz
        · skip
          have hz := hle 72 (by unfold layErr layFrom; dsimp only; rw [if_pos rfl, if_neg (by omega), if_neg (by omega), if_pos (by omega)]) (by decide)
          subst hz
          subst hv
          clear hle hR hS hO hB hal
          go_wp2_with fail
          exact bodyPost_ret (v := .tuple #[nilS, .int .i64 0, .int .i64 72, .int .i64 (j : Int)]) (by simp [results, Try.results15, go_sem]) rfl ⟨_, rfl, World.ownsRow_nil _ _ _ 1, HB.out⟩
        have hE : layErr ⟨sz, -1⟩ s.e = 0 := by unfold layErr layFrom; dsimp only; rw [if_pos rfl, if_neg (by omega), if_neg (by omega), if_neg (by omega)]
        have hR2 := fillR_ok hR hE
        have hS3 := hS.stp 0 hE
        have hF : layFrom ⟨sz, -1⟩ s.e = s.e := by unfold layFrom; dsimp only; rw [if_pos rfl]
        have hal2 := bel1 (wr.alloc (.cells #[.int .i64 sz, .int .i64 (-1)] 35)) (.cells #[.int .i64 (s.e)] 3)
        obtain ⟨v2, w2, hrun, hown, hgr, _⟩ := z_ap (bl := [s.e]) (ad := ⟨(wr.alloc (.cells #[.int .i64 sz, .int .i64 (-1)] 35)).heap.size, 0, none⟩) (H := (wr.alloc (.cells #[.int .i64 sz, .int .i64 (-1)] 35)).heap.size + 1) 1 (own_below (own_below hO hal) hal2) (ZRow.lit (heap_new _ _) (Nat.lt_succ_self _)) (by simp; omega) (by have := hB.size; have := hal.size; have := hal2.size; omega)
        have hB2 := own_bel (own_below (own_below hO hal) hal2) hgr (by have := hB.size; have := hal.size; have := hal2.size; omega)
        have HB2 : Hid (Below w.heap.size w w2) := Hid.mk <| (HB.out.trans (hal2.mono (by have := hB.size; have := hal.size; omega))).trans hB2
        have y0 : w2.cell? ⟨wr.heap.size, 0, none⟩ = some (.int .i64 sz) := by
          have e1 := hgr.block wr.heap.size (by rw [World.size_alloc, World.size_alloc]; omega) (fun e => by have := own_lt hO e.symm; omega)
          have e2 := hal2.block wr.heap.size (by rw [World.size_alloc]; omega)
          have e3 := (e1.trans e2).trans (heap_new wr _)
          exact cell_lit e3 0
        have HO : Hid (ZOwn w2 w.heap.size v2 (stp 0 s ⟨sz, -1⟩).off) := by
          have : (stp 0 s ⟨sz, -1⟩).off = s.off ++ [s.e] := (show (stp 0 s ⟨sz, -1⟩).off = s.off ++ [layFrom ⟨sz, -1⟩ s.e] from rfl).trans (by rw [hF])
          rw [this]
          exact ⟨hown⟩
        have hse : (stp 0 s ⟨sz, -1⟩).e = s.e + sz := (show (stp 0 s ⟨sz, -1⟩).e = layFrom ⟨sz, -1⟩ s.e + sz from rfl).trans (by rw [hF])
        clear hle hR hO hB hal hal2 hB2 hown hgr hF hE
        obtain ⟨p2, c2, hv2, _⟩ := HO.out.shape
        subst hv
        subst hv2
        rw [World.size_alloc] at hrun
        go_wp2_with (at_builtin; refine (wpList_append_ex (by rfl) _ _ _ _ (by rfl) _ _ (by rfl) (by rfl) (fun a b => a = _ ∧ b = w2) ⟨_, w2, hrun, rfl, rfl⟩ ?_); rintro _ _ ⟨rfl, rfl⟩)
        go_roundw
        case rel => exact ⟨j + 1, stp 0 s ⟨sz, -1⟩, by omega, by go_num, by rw [hse], HO.out, hS3, HB2.out, hR2⟩
        case measure => simp [RowKit.intOf]; omega
      · skip
        by_cases k4 : of < s.e
        · skip
          have hz := hle 70 (by unfold layErr layFrom; dsimp only; rw [if_neg k3, if_neg (by omega), if_pos (by omega)]) (by decide)
          subst hz
          subst hv
          clear hle hR hS hO hB hal
          go_wp2_with fail
          exact bodyPost_ret (v := .tuple #[nilS, .int .i64 0, .int .i64 70, .int .i64 (j : Int)]) (by simp [results, Try.results15, go_sem]) rfl ⟨_, rfl, World.ownsRow_nil _ _ _ 1, HB.out⟩
        by_cases k5 : 65535 < of
        · skip
          have hz := hle 72 (by unfold layErr layFrom; dsimp only; rw [if_neg k3, if_neg (by omega), if_neg (by omega), if_pos (by omega)]) (by decide)
          subst hz
          subst hv
          clear hle hR hS hO hB hal
          go_wp2_with fail
          exact bodyPost_ret (v := .tuple #[nilS, .int .i64 0, .int .i64 72, .int .i64 (j : Int)]) (by simp [results, Try.results15, go_sem]) rfl ⟨_, rfl, World.ownsRow_nil _ _ _ 1, HB.out⟩
        by_cases k7 : 65535 < sz
        · skip
          have hz := hle 72 (by unfold layErr layFrom; dsimp only; rw [if_neg k3, if_neg (by omega), if_neg (by omega), if_pos (by omega)]) (by decide)
          subst hz
          subst hv
          clear hle hR hS hO hB hal
          go_wp2_with fail
          exact bodyPost_ret (v := .tuple #[nilS, .int .i64 0, .int .i64 72, .int .i64 (j : Int)]) (by simp [results, Try.results15, go_sem]) rfl ⟨_, rfl, World.ownsRow_nil _ _ _ 1, HB.out⟩
        by_cases k6 : 65535 < of + sz
        · skip
          have hz := hle 72 (by unfold layErr layFrom; dsimp only; rw [if_neg k3, if_neg (by omega), if_neg (by omega), if_pos (by omega)]) (by decide)
          subst hz
          subst hv
          clear hle hR hS hO hB hal
          go_wp2_with fail
          exact bodyPost_ret (v := .tuple #[nilS, .int .i64 0, .int .i64 72, .int .i64 (j : Int)]) (by simp [results, Try.results15, go_sem]) rfl ⟨_, rfl, World.ownsRow_nil _ _ _ 1, HB.out⟩
        have k8 : (of == -1) = false := beq_eq_false_iff_ne.2 k3
        have hE : layErr ⟨sz, of⟩ s.e = 0 := by unfold layErr layFrom; dsimp only; rw [if_neg k3, if_neg (by omega), if_neg (by omega), if_neg (by omega)]
        have hR2 := fillR_ok hR hE
        have hS3 := hS.stp 0 hE
        have hF : layFrom ⟨sz, of⟩ s.e = of := by unfold layFrom; dsimp only; rw [if_neg k3]
        have hal2 := bel1 (wr.alloc (.cells #[.int .i64 sz, .int .i64 (of)] 35)) (.cells #[.int .i64 (of)] 3)
        obtain ⟨v2, w2, hrun, hown, hgr, _⟩ := z_ap (bl := [of]) (ad := ⟨(wr.alloc (.cells #[.int .i64 sz, .int .i64 (of)] 35)).heap.size, 0, none⟩) (H := (wr.alloc (.cells #[.int .i64 sz, .int .i64 (of)] 35)).heap.size + 1) 1 (own_below (own_below hO hal) hal2) (ZRow.lit (heap_new _ _) (Nat.lt_succ_self _)) (by simp; omega) (by have := hB.size; have := hal.size; have := hal2.size; omega)
        have hB2 := own_bel (own_below (own_below hO hal) hal2) hgr (by have := hB.size; have := hal.size; have := hal2.size; omega)
        have HB2 : Hid (Below w.heap.size w w2) := Hid.mk <| (HB.out.trans (hal2.mono (by have := hB.size; have := hal.size; omega))).trans hB2
        have y0 : w2.cell? ⟨wr.heap.size, 0, none⟩ = some (.int .i64 sz) := by
          have e1 := hgr.block wr.heap.size (by rw [World.size_alloc, World.size_alloc]; omega) (fun e => by have := own_lt hO e.symm; omega)
          have e2 := hal2.block wr.heap.size (by rw [World.size_alloc]; omega)
          have e3 := (e1.trans e2).trans (heap_new wr _)
          exact cell_lit e3 0
        have HO : Hid (ZOwn w2 w.heap.size v2 (stp 0 s ⟨sz, of⟩).off) := by
          have : (stp 0 s ⟨sz, of⟩).off = s.off ++ [of] := (show (stp 0 s ⟨sz, of⟩).off = s.off ++ [layFrom ⟨sz, of⟩ s.e] from rfl).trans (by rw [hF])
          rw [this]
          exact ⟨hown⟩
        have hse : (stp 0 s ⟨sz, of⟩).e = of + sz := (show (stp 0 s ⟨sz, of⟩).e = layFrom ⟨sz, of⟩ s.e + sz from rfl).trans (by rw [hF])
        clear hle hR hO hB hal hal2 hB2 hown hgr hF hE
        obtain ⟨p2, c2, hv2, _⟩ := HO.out.shape
        subst hv
        subst hv2
        rw [World.size_alloc] at hrun
        go_wp2_with (at_builtin; refine (wpList_append_ex (by rfl) _ _ _ _ (by rfl) _ _ (by rfl) (by rfl) (fun a b => a = _ ∧ b = w2) ⟨_, w2, hrun, rfl, rfl⟩ ?_); rintro _ _ ⟨rfl, rfl⟩)
        go_roundw
        case rel => exact ⟨j + 1, stp 0 s ⟨sz, of⟩, by omega, by go_num, by rw [hse], HO.out, hS3, HB2.out, hR2⟩
        case measure => simp [RowKit.intOf]; omega
    · obtain rfl : j = l.length := by omega
      rw [List.drop_length] at hR
      have hZ2 := placeZ_ok hb hR.symm
      rw [hZ] at hZ2
      obtain ⟨pv, cv, hv, _⟩ := hO.shape
      have HO : Hid (ZOwn wr w.heap.size u8 s.off) := Hid.mk <| hO
      obtain ⟨⟨e1, e2⟩, _, hoff, _⟩ := hS
      unfold sayB at hZ2
      by_cases k1 : b = -1
      · subst k1
        rw [if_pos rfl, if_neg (by omega)] at hZ2
        subst hZ2 hv
        go_wp2_with fail
        exact bodyPost_ret (v := .tuple #[.slice pv s.off.length cv, .int .i64 s.e, .int .i64 0, .int .i64 0]) (by simp [results, Try.results15, go_sem]) rfl ⟨_, rfl, HO.out, hB⟩
      · have k2 : (b == -1) = false := beq_eq_false_iff_ne.2 k1
        rw [if_neg k1] at hZ2
        by_cases k3 : b < s.e
        · rw [if_pos k3] at hZ2
          subst hZ2 hv
          go_wp2_with fail
          exact bodyPost_ret (v := .tuple #[nilS, .int .i64 0, .int .i64 71, .int .i64 (l.length : Int)]) (by simp [results, Try.results15, go_sem]) rfl ⟨_, rfl, World.ownsRow_nil _ _ _ 1, hB⟩
        · rw [if_neg k3] at hZ2
          subst hZ2 hv
          go_wp2_with fail
          exact bodyPost_ret (v := .tuple #[.slice pv s.off.length cv, .int .i64 b, .int .i64 0, .int .i64 0]) (by simp [results, Try.results15, go_sem]) rfl ⟨_, rfl, HO.out, hB⟩
end Go.Proofs.Ytjdinlgbfpkodaa

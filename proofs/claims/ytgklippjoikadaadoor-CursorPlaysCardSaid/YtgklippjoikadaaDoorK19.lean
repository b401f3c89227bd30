/- CuRj, CuRk. -/
import Derived.Test.YtgklippjoikadaaDoorK18
import Derived.Test.YtgklippjoikadaaDoorK11
import Derived.Test.YtgklippjoikadaaDoorK13
import Derived.Test.YtgklippjoikadaaDoorK14
namespace Go.Proofs.YtgklippjoikadaaDoor
open Go.ChangeShapes Go.WideShapes Go.ChangeAt Go.RowKit

set_option maxRecDepth 20000 in
set_option maxHeartbeats 1000000 in
theorem rGoodDim_any (t : Tk) (pc : Option Addr) (cc : Nat) (w : World) : Calls Tryd.prog 59 #[tkV t pc cc] w fun e w' => e = .returned (.bool (dimG t)) ∧ Below w.heap.size w w' := by
  have F : Hid (∀ W, Below (w.alloc (tkO t pc cc)).heap.size (w.alloc (tkO t pc cc)) W → W.cell? ⟨w.heap.size, 0, none⟩ = some (.int .i64 t.op) ∧ W.cell? ⟨w.heap.size, 4, none⟩ = some (.int .i64 t.siz) ∧ W.cell? ⟨w.heap.size, 16, none⟩ = some (.int .i64 t.a.p) ∧ W.cell? ⟨w.heap.size, 17, none⟩ = some (.int .i64 t.a.o) ∧ W.cell? ⟨w.heap.size, 18, none⟩ = some (.int .i64 t.b.p) ∧ W.cell? ⟨w.heap.size, 19, none⟩ = some (.int .i64 t.b.o)) := fun W hb => by
    refine ⟨?_, ?_, ?_, ?_, ?_, ?_⟩ <;> exact (hb.cell (p := ⟨w.heap.size, _, none⟩) (by simp)).trans (cell_at (heap_al _ _) _)
  by_cases h4 : t.op = 4
  rotate_left
  · have e : dimG t = false := by unfold dimG; rw [decide_eq_false h4]; rfl
    rw [e]
    have d4 : (t.op == 4) = false := by simpa using h4
    clear h4 e
    go_enter Tryd.func59, Tryd.ntmps59
    go_wp2_with fail
    go_ret
    exact ⟨rfl, bel1 _ _⟩
  have d4 : (t.op == 4) = true := by simp [h4]
  have d5 : decide (t.op = 4) = true := decide_eq_true h4
  by_cases hz : 1 ≤ t.siz ∧ t.siz ≤ 65535
  · have S0 := fun W => rSpot_any t.siz (t.a.p) (t.a.o) W hz.1 hz.2
    have S1 := fun W => rSpot_any t.siz (t.b.p) (t.b.o) W hz.1 hz.2
    have e : (dimG t) = ((goodB t.siz (t.a.p) (t.a.o)) && (goodB t.siz (t.b.p) (t.b.o))) := by
      unfold dimG goods
      rw [decide_eq_true hz]
      simp [d5]
    rw [e]
    clear e
    clear h4 d5
    generalize goodB t.siz (t.a.p) (t.a.o) = b0 at *
    generalize goodB t.siz (t.b.p) (t.b.o) = b1 at *
    obtain ⟨z1, z2⟩ := hz
    have z3 : ¬ t.siz < 1 := by omega
    have z4 : ¬ 65535 < t.siz := by omega
    cases b0
    · have F0 : Hid (1 = 1) := rfl
      go_enter Tryd.func59, Tryd.ntmps59
      go_wp2_with (first
        | (go_at_call 76; clear F0; refine (S0 _).mono ?_; rintro _ w0 ⟨rfl, hx0⟩; have hb0 : Hid (Below (w.alloc (tkO t pc cc)).heap.size (w.alloc (tkO t pc cc)) w0) := hx0; obtain ⟨q0a, q4a, q16a, q17a, q18a, q19a⟩ := F.out w0 hb0.out; clear hx0))
      go_ret
      exact ⟨rfl, belT (bel1 _ _) hb0.out⟩
    · skip
      cases b1
      · have F0 : Hid (1 = 1) := rfl
        have F1 : Hid (1 = 1) := rfl
        go_enter Tryd.func59, Tryd.ntmps59
        go_wp2_with (first
          | (go_at_call 76; clear F0; refine (S0 _).mono ?_; rintro _ w0 ⟨rfl, hx0⟩; have hb0 : Hid (Below (w.alloc (tkO t pc cc)).heap.size (w.alloc (tkO t pc cc)) w0) := hx0; obtain ⟨q0a, q4a, q16a, q17a, q18a, q19a⟩ := F.out w0 hb0.out; clear hx0)
          | (go_at_call 76; clear F1; refine (S1 _).mono ?_; rintro _ w1 ⟨rfl, hx1⟩; have hb1 : Hid (Below (w.alloc (tkO t pc cc)).heap.size (w.alloc (tkO t pc cc)) w1) := belT hb0.out hx1; obtain ⟨q0b, q4b, q16b, q17b, q18b, q19b⟩ := F.out w1 hb1.out; clear hx1))
        go_ret
        exact ⟨rfl, belT (bel1 _ _) hb1.out⟩
      · have F0 : Hid (1 = 1) := rfl
        have F1 : Hid (1 = 1) := rfl
        go_enter Tryd.func59, Tryd.ntmps59
        go_wp2_with (first
          | (go_at_call 76; clear F0; refine (S0 _).mono ?_; rintro _ w0 ⟨rfl, hx0⟩; have hb0 : Hid (Below (w.alloc (tkO t pc cc)).heap.size (w.alloc (tkO t pc cc)) w0) := hx0; obtain ⟨q0a, q4a, q16a, q17a, q18a, q19a⟩ := F.out w0 hb0.out; clear hx0)
          | (go_at_call 76; clear F1; refine (S1 _).mono ?_; rintro _ w1 ⟨rfl, hx1⟩; have hb1 : Hid (Below (w.alloc (tkO t pc cc)).heap.size (w.alloc (tkO t pc cc)) w1) := belT hb0.out hx1; obtain ⟨q0b, q4b, q16b, q17b, q18b, q19b⟩ := F.out w1 hb1.out; clear hx1))
        go_ret
        exact ⟨rfl, belT (bel1 _ _) hb1.out⟩
  · have e : (dimG t) = false := by
      unfold dimG goods
      rw [decide_eq_false hz]
      simp
    rw [e]
    clear e h4 d5
    have hq : t.siz < 1 ∨ (¬ t.siz < 1 ∧ 65535 < t.siz) := by omega
    rcases hq with z1 | ⟨z1, z2⟩
    · go_enter Tryd.func59, Tryd.ntmps59
      go_wp2_with fail
      go_ret
      exact ⟨rfl, bel1 _ _⟩
    · go_enter Tryd.func59, Tryd.ntmps59
      go_wp2_with fail
      go_ret
      exact ⟨rfl, bel1 _ _⟩
set_option maxRecDepth 20000 in
set_option maxHeartbeats 1000000 in
theorem rGoodLen_any (t : Tk) (pc : Option Addr) (cc : Nat) (w : World) : Calls Tryd.prog 61 #[tkV t pc cc] w fun e w' => e = .returned (.bool (lenG t)) ∧ Below w.heap.size w w' := by
  have F : Hid (∀ W, Below (w.alloc (tkO t pc cc)).heap.size (w.alloc (tkO t pc cc)) W → W.cell? ⟨w.heap.size, 0, none⟩ = some (.int .i64 t.op) ∧ W.cell? ⟨w.heap.size, 4, none⟩ = some (.int .i64 t.siz) ∧ W.cell? ⟨w.heap.size, 16, none⟩ = some (.int .i64 t.a.p) ∧ W.cell? ⟨w.heap.size, 17, none⟩ = some (.int .i64 t.a.o) ∧ W.cell? ⟨w.heap.size, 18, none⟩ = some (.int .i64 t.b.p) ∧ W.cell? ⟨w.heap.size, 19, none⟩ = some (.int .i64 t.b.o)) := fun W hb => by
    refine ⟨?_, ?_, ?_, ?_, ?_, ?_⟩ <;> exact (hb.cell (p := ⟨w.heap.size, _, none⟩) (by simp)).trans (cell_at (heap_al _ _) _)
  by_cases h4 : t.op = 6
  rotate_left
  · have e : lenG t = false := by unfold lenG; rw [decide_eq_false h4]; rfl
    rw [e]
    have d4 : (t.op == 6) = false := by simpa using h4
    clear h4 e
    go_enter Tryd.func61, Tryd.ntmps61
    go_wp2_with fail
    go_ret
    exact ⟨rfl, bel1 _ _⟩
  have d4 : (t.op == 6) = true := by simp [h4]
  have d5 : decide (t.op = 6) = true := decide_eq_true h4
  by_cases hz : 1 ≤ t.siz ∧ t.siz ≤ 65535
  · have S0 := fun W => rSpot_any t.siz (t.a.p) (t.a.o) W hz.1 hz.2
    have e : (lenG t) = ((goodB t.siz (t.a.p) (t.a.o))) := by
      unfold lenG goods
      rw [decide_eq_true hz]
      simp [d5]
    rw [e]
    clear e
    clear h4 d5
    generalize goodB t.siz (t.a.p) (t.a.o) = b0 at *
    obtain ⟨z1, z2⟩ := hz
    have z3 : ¬ t.siz < 1 := by omega
    have z4 : ¬ 65535 < t.siz := by omega
    cases b0
    · have F0 : Hid (1 = 1) := rfl
      go_enter Tryd.func61, Tryd.ntmps61
      go_wp2_with (first
        | (go_at_call 76; clear F0; refine (S0 _).mono ?_; rintro _ w0 ⟨rfl, hx0⟩; have hb0 : Hid (Below (w.alloc (tkO t pc cc)).heap.size (w.alloc (tkO t pc cc)) w0) := hx0; obtain ⟨q0a, q4a, q16a, q17a, q18a, q19a⟩ := F.out w0 hb0.out; clear hx0))
      go_ret
      exact ⟨rfl, belT (bel1 _ _) hb0.out⟩
    · have F0 : Hid (1 = 1) := rfl
      go_enter Tryd.func61, Tryd.ntmps61
      go_wp2_with (first
        | (go_at_call 76; clear F0; refine (S0 _).mono ?_; rintro _ w0 ⟨rfl, hx0⟩; have hb0 : Hid (Below (w.alloc (tkO t pc cc)).heap.size (w.alloc (tkO t pc cc)) w0) := hx0; obtain ⟨q0a, q4a, q16a, q17a, q18a, q19a⟩ := F.out w0 hb0.out; clear hx0))
      go_ret
      exact ⟨rfl, belT (bel1 _ _) hb0.out⟩
  · have e : (lenG t) = false := by
      unfold lenG goods
      rw [decide_eq_false hz]
      simp
    rw [e]
    clear e h4 d5
    have hq : t.siz < 1 ∨ (¬ t.siz < 1 ∧ 65535 < t.siz) := by omega
    rcases hq with z1 | ⟨z1, z2⟩
    · go_enter Tryd.func61, Tryd.ntmps61
      go_wp2_with fail
      go_ret
      exact ⟨rfl, bel1 _ _⟩
    · go_enter Tryd.func61, Tryd.ntmps61
      go_wp2_with fail
      go_ret
      exact ⟨rfl, bel1 _ _⟩
end Go.Proofs.YtgklippjoikadaaDoor
namespace Go.Proofs.YtgklippjoikadaaDoor
open Go.ChangeShapes Go.WideShapes Go.ChangeAt Go.RowKit

theorem tk_cells (t : Tk) (pc : Option Addr) (cc : Nat) {W : World} {b : Nat} (h : W.heap[b]? = some (tkO t pc cc)) : b < W.heap.size ∧ W.cell? ⟨b, 4, none⟩ = some (.int .i64 t.siz) ∧ W.cell? ⟨b, 16, none⟩ = some (.int .i64 t.a.p) ∧ W.cell? ⟨b, 17, none⟩ = some (.int .i64 t.a.o) ∧ W.cell? ⟨b, 18, none⟩ = some (.int .i64 t.b.p) ∧ W.cell? ⟨b, 19, none⟩ = some (.int .i64 t.b.o) :=
  ⟨(Array.getElem?_eq_some_iff.1 h).1, cell_at h 4, cell_at h 16, cell_at h 17, cell_at h 18, cell_at h 19⟩
set_option maxRecDepth 20000 in
set_option maxHeartbeats 1000000 in
theorem rGetDim_any {w : World} {c g len cap st en : Nat} {hi : Bool} {f : Nat → Int} (h : Cs w c 1 g len cap st en hi f) (t : Tk) (pc : Option Addr) (cc : Nat) :
    Calls Tryd.prog 33 #[.pointer (some ⟨c, 1, none⟩), tkV t pc cc] w fun e w' => e = .returned (.tuple #[.int .i64 (i64W (gwV (dimG t) hi len st en f t.siz (t.a.p, t.a.o))), .int .i64 (i64W (gwV (dimG t) hi len st en f t.siz (t.b.p, t.b.o))), .int .i64 (gwE (dimG t) len en t.siz)]) ∧ Cs w' c 1 g len cap st (gwN (dimG t) len en t.siz) hi f ∧ Cb c 1 g w w' := by
  have G := fun W => rGoodDim_any t pc cc W
  have LD := (tk_of (heap_al w (tkO t pc cc))).load
  have B0 : Hid ((w.alloc (tkO t pc cc)).heap[w.heap.size]? = some (tkO t pc cc)) := heap_al w (tkO t pc cc)
  unfold gwV gwE gwN
  have H : Hid (Cs w c 1 g len cap st en hi f) := h
  have h2 := h.h2
  have h4 := h.h4
  cases hg : dimG t with
  | false =>
    rw [hg] at G
    clear h
    have e0 : (if false = true then clE len en t.siz else 1) = 1 := rfl
    rw [e0, if_neg (by decide), if_neg (by decide), if_neg (by decide)]
    have e1 : i64W 0 = 0 := by unfold i64W wrap64; omega
    rw [e1]
    clear e0 e1
    go_enter Tryd.func33, Tryd.ntmps33
    go_wp2_with (first | (go_at_call 59; refine (G _).mono ?_; rintro e w1 ⟨rfl, hb1⟩) | (guard_target =~ wpList _ _ _ (Oper.mk _ (Op.load 48 _) _ _ _ _ :: _) _ _; go_must (refine wpList_ld 48 _ rfl rfl _ _ rfl LD ?_); simp only [pts]))
    exact bodyPost_ret (v := .tuple #[.int .i64 0, .int .i64 0, .int .i64 1]) (by simp [results, Tryd.results33, go_sem]) rfl ⟨rfl, H.out.below (belT (bel1 _ _) hb1), Cb.of_below (belT (bel1 _ _) hb1) H.out.lt⟩
  | true =>
    rw [hg] at G
    obtain ⟨hsz, hsp⟩ := goods_ok (dim_ok hg)
    have o1 := goodB_off (hsp (t.a.p, t.a.o) (by simp [dimS])) hsz.2
    have o2 := goodB_off (hsp (t.b.p, t.b.o) (by simp [dimS])) hsz.2
    dsimp only at o1 o2
    have CL := fun W (hW : Below w.heap.size w W) => rClaim_any (h.below hW) t.siz
    have xc : w.heap.size ≠ c := by have := h.lt; omega
    have xg : w.heap.size ≠ g := by have := h.row.lt; omega
    clear h hsp hg
    rw [if_pos rfl, if_pos rfl]
    have hclP : clE len en t.siz = 0 → clP len en t.siz = en := fun e => by unfold clP; rw [if_pos e]
    generalize clP len en t.siz = P at CL hclP
    generalize clN len en t.siz = N at CL ⊢
    generalize clE len en t.siz = E at CL hclP ⊢
    by_cases hE : E = 0
    · obtain rfl := hclP hE
      subst hE
      clear hclP
      rw [if_pos rfl, if_pos rfl]
      go_enter Tryd.func33, Tryd.ntmps33
      go_wp2_with (first
        | (go_at_call 59; refine (G _).mono ?_; rintro e w1 ⟨rfl, hb1⟩; have k1 : Hid (w1.heap[w.heap.size]? = some (tkO t pc cc)) := (hb1.block _ (by simp)).trans B0.out; obtain ⟨z1, q1, q2, q3, q4, q5⟩ := tk_cells t pc cc k1.out; have hb2 : Hid (Below w.heap.size w w1) := belT (bel1 _ _) hb1; have CL1 := CL w1 hb2.out; clear hb1)
        | (guard_target =~ wpList _ _ _ (Oper.mk _ (Op.load 48 _) _ _ _ _ :: _) _ _; go_must (refine wpList_ld 48 _ rfl rfl _ _ rfl LD ?_); simp only [pts])
        | (go_at_call 23; refine CL1.mono ?_; rintro _ w2 ⟨rfl, C2, D2⟩; have k2 : Hid (w2.heap[w.heap.size]? = some (tkO t pc cc)) := (D2.block _ z1 xc xg).trans k1.out; obtain ⟨y1, y2, y3, y4, y5, y6⟩ := tk_cells t pc cc k2.out; have G1 := rGet_any C2 ((en : Int) + t.a.o) t.a.p; have F1 : Hid (1 = 1) := rfl; replace C2 : Hid _ := C2; replace D2 : Hid _ := D2)
        | (clear F1; go_at_call 24; refine G1.mono ?_; rintro _ w3 ⟨rfl, hb3⟩; have k3 : Hid (w3.heap[w.heap.size]? = some (tkO t pc cc)) := (hb3.block _ y1).trans k2.out; obtain ⟨x1, x2, x3, x4, x5, x6⟩ := tk_cells t pc cc k3.out; have G2 := rGet_any (C2.out.below hb3) ((en : Int) + t.b.o) t.b.p; replace hb3 : Hid _ := hb3)
        | (go_at_call 24; refine G2.mono ?_; rintro _ w4 ⟨rfl, hb4⟩; replace hb4 : Hid _ := hb4))
      exact bodyPost_ret (v := .tuple #[.int .i64 (i64W (getW hi st N f (en + t.a.o) t.a.p)), .int .i64 (i64W (getW hi st N f (en + t.b.o) t.b.p)), .int .i64 0]) (by simp [results, Tryd.results33, go_sem, i64W]) rfl ⟨rfl, C2.out.below (belT hb3.out hb4.out), ((Cb.of_below hb2.out H.out.lt).trans D2.out).trans (Cb.of_below (belT hb3.out hb4.out) C2.out.lt)⟩
    · have hE' : (E != 0) = true := by simpa using hE
      rw [if_neg hE, if_neg hE]
      have e1 : i64W 0 = 0 := by unfold i64W wrap64; omega
      rw [e1]
      clear e1 hclP
      go_enter Tryd.func33, Tryd.ntmps33
      go_wp2_with (first
        | (go_at_call 59; refine (G _).mono ?_; rintro e w1 ⟨rfl, hb1⟩; have k1 : Hid (w1.heap[w.heap.size]? = some (tkO t pc cc)) := (hb1.block _ (by simp)).trans B0.out; obtain ⟨z1, q1, q2, q3, q4, q5⟩ := tk_cells t pc cc k1.out; have hb2 : Hid (Below w.heap.size w w1) := belT (bel1 _ _) hb1; have CL1 := CL w1 hb2.out; clear hb1)
        | (guard_target =~ wpList _ _ _ (Oper.mk _ (Op.load 48 _) _ _ _ _ :: _) _ _; go_must (refine wpList_ld 48 _ rfl rfl _ _ rfl LD ?_); simp only [pts])
        | (go_at_call 23; refine CL1.mono ?_; rintro _ w2 ⟨rfl, C2, D2⟩; replace C2 : Hid _ := C2; replace D2 : Hid _ := D2))
      exact bodyPost_ret (v := .tuple #[.int .i64 0, .int .i64 0, .int .i64 E]) (by simp [results, Tryd.results33, go_sem]) rfl ⟨rfl, C2.out, (Cb.of_below hb2.out H.out.lt).trans D2.out⟩
end Go.Proofs.YtgklippjoikadaaDoor

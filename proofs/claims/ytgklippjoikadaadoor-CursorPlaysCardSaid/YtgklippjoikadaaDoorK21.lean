/- CuRl, CuS. -/
import Derived.Test.YtgklippjoikadaaDoorK19
import Derived.Test.YtgklippjoikadaaDoorK20
import Derived.Test.YtgklippjoikadaaDoorK16
namespace Go.Proofs.YtgklippjoikadaaDoor
open Go.ChangeShapes Go.WideShapes Go.ChangeAt Go.RowKit

theorem mx_lt (p : Int) (h : p = 5 ∨ p = 6 ∨ p = 7) : 0 ≤ mx p ∧ mx p ≤ 4294967294 := by rcases h with rfl | rfl | rfl <;> decide
theorem most_u (p n : Int) (h : p = 5 ∨ p = 6 ∨ p = 7) (h0 : -9223372036854775808 ≤ n) (h1 : n ≤ 9223372036854775807) : decide (mx p < u64W n) = !decide (0 ≤ n ∧ n ≤ mx p) := by
  have := mx_lt p h
  have e : u64W n = if 0 ≤ n then n else n + 18446744073709551616 := by unfold u64W; split <;> omega
  rw [e]
  by_cases hn : 0 ≤ n
  · rw [if_pos hn]
    by_cases hm : n ≤ mx p
    · rw [decide_eq_true (And.intro hn hm), decide_eq_false (by omega)]; rfl
    · rw [decide_eq_false (show ¬ (0 ≤ n ∧ n ≤ mx p) by omega), decide_eq_true (by omega)]; rfl
  · rw [if_neg hn, decide_eq_false (show ¬ (0 ≤ n ∧ n ≤ mx p) by omega), decide_eq_true (by omega)]; rfl
set_option maxRecDepth 20000 in
set_option maxHeartbeats 1000000 in
theorem rPutDim_any {w : World} {c g len cap st en : Nat} {hi : Bool} {f : Nat → Int} (h : Cs w c 1 g len cap st en hi f) (t : Tk) (pc : Option Addr) (cc : Nat) (block count : Int) (hbl : -9223372036854775808 ≤ block ∧ block ≤ 9223372036854775807) (hct : -9223372036854775808 ≤ count ∧ count ≤ 9223372036854775807) :
    Calls Tryd.prog 32 #[.pointer (some ⟨c, 1, none⟩), tkV t pc cc, .int .i64 block, .int .i64 count] w fun e w' => e = .returned (.int .i64 (pwE (dimG t) len en t.siz (dimN t block count))) ∧ Cs w' c 1 g len cap st (pwN (dimG t) len en t.siz (dimN t block count)) hi (pwF (dimG t) hi len st en f t.siz (dimN t block count)) ∧ Cb c 1 g w w' := by
  have G := fun W => rGoodDim_any t pc cc W
  have LD := (tk_of (heap_al w (tkO t pc cc))).load
  have B0 : Hid ((w.alloc (tkO t pc cc)).heap[w.heap.size]? = some (tkO t pc cc)) := heap_al w (tkO t pc cc)
  have H : Hid (Cs w c 1 g len cap st en hi f) := h
  have h2 := h.h2
  have h4 := h.h4
  unfold pwE pwN pwF
  cases hg : dimG t with
  | false =>
    rw [hg] at G
    clear h
    rw [if_neg (by decide), if_neg (by decide), if_neg (by decide)]
    go_enter Tryd.func32, Tryd.ntmps32
    go_wp2_with (first | (go_at_call 59; refine (G _).mono ?_; rintro e w1 ⟨rfl, hb1⟩) | (guard_target =~ wpList _ _ _ (Oper.mk _ (Op.load 48 _) _ _ _ _ :: _) _ _; go_must (refine wpList_ld 48 _ rfl rfl _ _ rfl LD ?_); simp only [pts]))
    go_ret
    exact ⟨rfl, H.out.below (belT (bel1 _ _) hb1), Cb.of_below (belT (bel1 _ _) hb1) H.out.lt⟩
  | true =>
    rw [hg] at G
    obtain ⟨hsz, hsp⟩ := goods_ok (dim_ok hg)
    have g1 := goodB_ok (hsp (t.a.p, t.a.o) (by simp [dimS]))
    have g2 := goodB_ok (hsp (t.b.p, t.b.o) (by simp [dimS]))
    have o1 := goodB_off (hsp (t.a.p, t.a.o) (by simp [dimS])) hsz.2
    have o2 := goodB_off (hsp (t.b.p, t.b.o) (by simp [dimS])) hsz.2
    dsimp only at o1 o2 g1 g2
    have xc : w.heap.size ≠ c := by have := h.lt; omega
    have xg : w.heap.size ≠ g := by have := h.row.lt; omega
    have M1 := fun W => rMost_any t.a.p t.a.o block hbl.2 W
    have M2 := fun W => rMost_any t.b.p t.b.o count hct.2 W
    have hov : over (dimN t block count) = (!decide (0 ≤ block ∧ block ≤ mx t.a.p) || !decide (0 ≤ count ∧ count ≤ mx t.b.p)) := by
      unfold over dimN
      simp only [List.any_cons, List.any_nil, Bool.or_false]
      rw [most_u _ _ g1.1 hbl.1 hbl.2, most_u _ _ g2.1 hct.1 hct.2]
    rw [if_pos rfl, if_pos rfl, if_pos rfl]
    have u1 : decide (0 ≤ block ∧ block ≤ mx t.a.p) = true → u64W block = block := fun e => by have := of_decide_eq_true e; unfold u64W; omega
    have u2 : decide (0 ≤ count ∧ count ≤ mx t.b.p) = true → u64W count = count := fun e => by have := of_decide_eq_true e; unfold u64W; omega
    have b1 : decide (0 ≤ block ∧ block ≤ mx t.a.p) = true → 0 ≤ block := fun e => (of_decide_eq_true e).1
    have b2 : decide (0 ≤ count ∧ count ≤ mx t.b.p) = true → 0 ≤ count := fun e => (of_decide_eq_true e).1
    generalize hd1 : decide (0 ≤ block ∧ block ≤ mx t.a.p) = m1 at *
    generalize hd2 : decide (0 ≤ count ∧ count ≤ mx t.b.p) = m2 at *
    clear hg hsp hd1 hd2
    have F1 : Hid (1 = 1) := rfl
    cases m1 with
    | false =>
      have eo : over (dimN t block count) = true := by rw [hov]; rfl
      have ew : wrE len en t.siz (dimN t block count) = 12 := by unfold wrE; rw [if_pos eo]
      unfold wrN wrF
      rw [ew, if_neg (by decide), if_neg (by decide)]
      clear h hov eo u1 u2 b1 b2 M2 ew
      go_enter Tryd.func32, Tryd.ntmps32
      go_wp2_with (first
        | (go_at_call 59; refine (G _).mono ?_; rintro e w1 ⟨rfl, hb1⟩; have k1 : Hid (w1.heap[w.heap.size]? = some (tkO t pc cc)) := (hb1.block _ (by simp)).trans B0.out; obtain ⟨z1, q1, q2, q3, q4, q5⟩ := tk_cells t pc cc k1.out; have hb2 : Hid (Below w.heap.size w w1) := belT (bel1 _ _) hb1; clear hb1)
        | (guard_target =~ wpList _ _ _ (Oper.mk _ (Op.load 48 _) _ _ _ _ :: _) _ _; go_must (refine wpList_ld 48 _ rfl rfl _ _ rfl LD ?_); simp only [pts])
        | (go_at_call 60; refine (M1 _).mono ?_; rintro e w2 ⟨rfl, hb3⟩; replace hb3 : Hid _ := hb3))
      go_ret
      exact ⟨rfl, H.out.below (belT hb2.out hb3.out), Cb.of_below (belT hb2.out hb3.out) H.out.lt⟩
    | true =>
      cases m2 with
      | false =>
        have eo : over (dimN t block count) = true := by rw [hov]; rfl
        have ew : wrE len en t.siz (dimN t block count) = 12 := by unfold wrE; rw [if_pos eo]
        unfold wrN wrF
        rw [ew, if_neg (by decide), if_neg (by decide)]
        clear h hov eo u1 u2 b1 b2 ew
        go_enter Tryd.func32, Tryd.ntmps32
        go_wp2_with (first
          | (go_at_call 59; refine (G _).mono ?_; rintro e w1 ⟨rfl, hb1⟩; have k1 : Hid (w1.heap[w.heap.size]? = some (tkO t pc cc)) := (hb1.block _ (by simp)).trans B0.out; obtain ⟨z1, q1, q2, q3, q4, q5⟩ := tk_cells t pc cc k1.out; have hb2 : Hid (Below w.heap.size w w1) := belT (bel1 _ _) hb1; clear hb1)
          | (guard_target =~ wpList _ _ _ (Oper.mk _ (Op.load 48 _) _ _ _ _ :: _) _ _; go_must (refine wpList_ld 48 _ rfl rfl _ _ rfl LD ?_); simp only [pts])
          | (clear F1; go_at_call 60; refine (M1 _).mono ?_; rintro e w2 ⟨rfl, hb3⟩; have k2 : Hid (w2.heap[w.heap.size]? = some (tkO t pc cc)) := (hb3.block _ z1).trans k1.out; obtain ⟨y1, y2, y3, y4, y5, y6⟩ := tk_cells t pc cc k2.out; replace hb3 : Hid _ := hb3)
          | (go_at_call 60; refine (M2 _).mono ?_; rintro e w3 ⟨rfl, hb4⟩; replace hb4 : Hid _ := hb4))
        go_ret
        exact ⟨rfl, H.out.below (belT (belT hb2.out hb3.out) hb4.out), Cb.of_below (belT (belT hb2.out hb3.out) hb4.out) H.out.lt⟩
      | true =>
        have eo : ¬ over (dimN t block count) = true := by rw [hov]; decide
        have ew : wrE len en t.siz (dimN t block count) = clE len en t.siz := by unfold wrE; rw [if_neg eo]
        unfold wrN wrF
        rw [ew]
        have e1 := u1 rfl
        have e2 := u2 rfl
        have p1 := b1 rfl
        have p2 := b2 rfl
        unfold dimN
        rw [e1, e2]
        have RM := fun W (hW : Below w.heap.size w W) => rRoom_any (h.below hW)
        clear hov eo u1 u2 b1 b2 ew
        by_cases hr : (len : Int) - en < t.siz
        · have ec : clE len en t.siz = 11 := by unfold clE; rw [if_neg (by omega), if_pos hr]
          rw [ec, if_neg (by decide), if_neg (by decide)]
          clear h ec
          go_enter Tryd.func32, Tryd.ntmps32
          go_wp2_with (first
            | (go_at_call 59; refine (G _).mono ?_; rintro e w1 ⟨rfl, hb1⟩; have k1 : Hid (w1.heap[w.heap.size]? = some (tkO t pc cc)) := (hb1.block _ (by simp)).trans B0.out; obtain ⟨z1, q1, q2, q3, q4, q5⟩ := tk_cells t pc cc k1.out; have hb2 : Hid (Below w.heap.size w w1) := belT (bel1 _ _) hb1; clear hb1)
            | (guard_target =~ wpList _ _ _ (Oper.mk _ (Op.load 48 _) _ _ _ _ :: _) _ _; go_must (refine wpList_ld 48 _ rfl rfl _ _ rfl LD ?_); simp only [pts])
            | (clear F1; go_at_call 60; refine (M1 _).mono ?_; rintro e w2 ⟨rfl, hb3⟩; have k2 : Hid (w2.heap[w.heap.size]? = some (tkO t pc cc)) := (hb3.block _ z1).trans k1.out; obtain ⟨y1, y2, y3, y4, y5, y6⟩ := tk_cells t pc cc k2.out; have hb5 : Hid (Below w.heap.size w w2) := belT hb2.out hb3)
            | (go_at_call 60; refine (M2 _).mono ?_; rintro e w3 ⟨rfl, hb4⟩; have k3 : Hid (w3.heap[w.heap.size]? = some (tkO t pc cc)) := (hb4.block _ y1).trans k2.out; obtain ⟨x1, x2, x3, x4, x5, x6⟩ := tk_cells t pc cc k3.out; have hb6 : Hid (Below w.heap.size w w3) := belT hb5.out hb4))
          go_region_held3 (fun X => X.cell? ⟨w.heap.size, 4, none⟩ = some (.int .i64 t.siz)) (first | assumption | go_keep) (first
            | (go_at_call 12; refine (RM _ hb6.out.drew).mono ?_; rintro _ w4 ⟨rfl, m, rfl⟩; have B3 : (w3.drew.drewN m).cell? ⟨w.heap.size, 4, none⟩ = some (.int .i64 t.siz) := x2))
          all_goals
            go_wp2_with fail
            go_ret
            exact ⟨rfl, H.out.below (below_drewN hb6.out _), Cb.of_below (below_drewN hb6.out _) H.out.lt⟩
        · obtain ⟨n, hn⟩ : ∃ n : Nat, t.siz = n := ⟨t.siz.toNat, by omega⟩
          have ec : clE len en t.siz = 0 := by unfold clE; rw [if_neg (by omega), if_neg hr]
          rw [ec, if_pos rfl, if_pos rfl, hn, show ((n : Int)).toNat = n by omega]
          have Z := fun W (hW : Below w.heap.size w W) => rZero_any (h.below hW) n (by omega)
          rw [← hn] at Z
          have hn1 : n ≤ 65535 := by omega
          have hr' : ¬ (len : Int) - (en : Int) < t.siz := hr
          clear h ec hn
          go_enter Tryd.func32, Tryd.ntmps32
          go_wp2_with (first
            | (go_at_call 59; refine (G _).mono ?_; rintro e w1 ⟨rfl, hb1⟩; have k1 : Hid (w1.heap[w.heap.size]? = some (tkO t pc cc)) := (hb1.block _ (by simp)).trans B0.out; obtain ⟨z1, q1, q2, q3, q4, q5⟩ := tk_cells t pc cc k1.out; have hb2 : Hid (Below w.heap.size w w1) := belT (bel1 _ _) hb1; clear hb1)
            | (guard_target =~ wpList _ _ _ (Oper.mk _ (Op.load 48 _) _ _ _ _ :: _) _ _; go_must (refine wpList_ld 48 _ rfl rfl _ _ rfl LD ?_); simp only [pts])
            | (clear F1; go_at_call 60; refine (M1 _).mono ?_; rintro e w2 ⟨rfl, hb3⟩; have k2 : Hid (w2.heap[w.heap.size]? = some (tkO t pc cc)) := (hb3.block _ z1).trans k1.out; obtain ⟨y1, y2, y3, y4, y5, y6⟩ := tk_cells t pc cc k2.out; have hb5 : Hid (Below w.heap.size w w2) := belT hb2.out hb3)
            | (go_at_call 60; refine (M2 _).mono ?_; rintro e w3 ⟨rfl, hb4⟩; have k3 : Hid (w3.heap[w.heap.size]? = some (tkO t pc cc)) := (hb4.block _ y1).trans k2.out; obtain ⟨x1, x2, x3, x4, x5, x6⟩ := tk_cells t pc cc k3.out; have hb6 : Hid (Below w.heap.size w w3) := belT hb5.out hb4))
          go_region_held3 (fun X => X.cell? ⟨w.heap.size, 4, none⟩ = some (.int .i64 t.siz)) (first | assumption | go_keep) (first
            | (go_at_call 12; refine (RM _ hb6.out.drew).mono ?_; rintro _ w4 ⟨rfl, m, rfl⟩; have B3 : (w3.drew.drewN m).cell? ⟨w.heap.size, 4, none⟩ = some (.int .i64 t.siz) := x2))
          all_goals
            have F2 : Hid (1 = 1) := rfl
            have hb7 : Hid (Below w.heap.size w (w3.drewN (1 + m))) := below_drewN hb6.out _
            have k4 : Hid ((w3.drewN (1 + m)).heap[w.heap.size]? = some (tkO t pc cc)) := k3.out
            obtain ⟨v1, v2, v3, v4, v5, v6⟩ := tk_cells t pc cc k4.out
            have Z1 := Z _ hb7.out
            go_wp2_with (first
              | (go_at_call 58; refine Z1.mono ?_; rintro _ w5 ⟨rfl, C5, D5⟩; have k5 : Hid (w5.heap[w.heap.size]? = some (tkO t pc cc)) := (D5.block _ v1 xc xg).trans k4.out; obtain ⟨r1, r2, r3, r4, r5, r6⟩ := tk_cells t pc cc k5.out; have P1 := rPut_any C5 ((en : Int) + t.a.o) t.a.p block p1 (by omega); replace C5 : Hid _ := C5; replace D5 : Hid _ := D5)
              | (clear F2; go_at_call 25; refine P1.mono ?_; rintro _ w6 ⟨rfl, C6, D6⟩; have k6 : Hid (w6.heap[w.heap.size]? = some (tkO t pc cc)) := (D6.block _ r1 xg).trans k5.out; obtain ⟨s1, s2, s3, s4, s5, s6⟩ := tk_cells t pc cc k6.out; have P2 := rPut_any C6 ((en : Int) + t.b.o) t.b.p count p2 (by omega); replace C6 : Hid _ := C6; replace D6 : Hid _ := D6)
              | (go_at_call 25; refine P2.mono ?_; rintro _ w7 ⟨rfl, C7, D7⟩; replace C7 : Hid _ := C7; replace D7 : Hid _ := D7))
            go_ret
            exact ⟨rfl, C7.out, (((Cb.of_below hb7.out H.out.lt).trans D5.out).trans (Cb.of_only D6.out C5.out.lt C5.out.ne)).trans (Cb.of_only D7.out C6.out.lt C6.out.ne)⟩
end Go.Proofs.YtgklippjoikadaaDoor
namespace Go.Proofs.YtgklippjoikadaaDoor
open Go.ChangeShapes Go.WideShapes Go.ChangeAt Go.RowKit

structure Wi (len st en : Nat) (f : Nat → Int) (E : Int) (n : Nat) (f' : Nat → Int) : Prop where
  le : en ≤ n
  lt : n ≤ len
  no : E ≠ 0 → n = en ∧ f' = f
  out : ∀ j, (j < st ∨ n ≤ j) → f' j = f j
section
variable {hi : Bool} {len st en : Nat} {f : Nat → Int}
theorem wi_same (h : en ≤ len) (E : Int) : Wi len st en f E en f := ⟨Nat.le_refl _, h, fun _ => ⟨rfl, rfl⟩, fun _ _ => rfl⟩
theorem wi_cl (h : en ≤ len) (n : Int) : Wi len st en f (clE len en n) (clN len en n) f := by
  unfold clN
  rcases clE_cases len en n with ⟨e, _⟩ | ⟨e, _⟩ | ⟨e, h0, h1⟩
  · rw [e, if_neg (by decide)]; exact wi_same h _
  · rw [e, if_neg (by decide)]; exact wi_same h _
  · rw [e, if_pos rfl]; exact ⟨by omega, by omega, fun h => absurd rfl h, fun _ _ => rfl⟩
theorem lay_out {a n : Nat} {t : ByteArray} {j : Nat} (h : j < a ∨ a + n ≤ j) : lay f a n t j = f j := by
  unfold lay
  rw [if_neg (by omega)]
theorem wi_put (h : en ≤ len) (a p x : Int) : Wi len st en f (putE st en a p x) en (putF hi st en f a p x) :=
  ⟨Nat.le_refl _, h, fun e => ⟨rfl, by unfold putF; rw [if_neg e]⟩, fun _ hj => putF_out hj⟩
theorem wi_set (h : en ≤ len) (a n : Int) (t : ByteArray) : Wi len st en f (setE st en a n t) en (setF st en f a n t) := by
  refine ⟨Nat.le_refl _, h, fun e => ⟨rfl, by unfold setF; rw [if_neg e]⟩, fun j hj => ?_⟩
  by_cases h0 : n < 0
  · rw [(setN (f := f) (t := t) (.inl h0)).2]
  · by_cases h1 : inC st en a n = true
    · have := inC_of h1
      rw [(setZ (f := f) (t := t) h0 h1).2]
      split
      · exact lay_out (by omega)
      · rfl
    · rw [(setN (f := f) (t := t) (.inr ⟨h0, by simpa using h1⟩)).2]
theorem wrE_zero {size : Int} {ns : List Nb} (e : wrE len en size ns = 0) : 0 ≤ size ∧ (en : Int) + size ≤ len := by
  unfold wrE at e
  split at e
  · cases e
  · rcases clE_cases len en size with ⟨e2, _⟩ | ⟨e2, _⟩ | ⟨_, h0, h1⟩
    · rw [e2] at e; cases e
    · rw [e2] at e; cases e
    · exact ⟨h0, h1⟩
theorem wrF_out {size : Int} {ns : List Nb} (h1 : st ≤ en) {j : Nat} (hj : j < st ∨ wrN len en size ns ≤ j) : wrF hi len st en f size ns j = f j := by
  unfold wrF
  unfold wrN at hj
  split
  · rename_i e
    rw [if_pos e] at hj
    rw [puts_out hj]
    exact lay_out (by omega)
  · rfl
theorem wi_wr (h1 : st ≤ en) (h : en ≤ len) (size : Int) (ns : List Nb) : Wi len st en f (wrE len en size ns) (wrN len en size ns) (wrF hi len st en f size ns) := by
  refine ⟨?_, ?_, fun e => ⟨by unfold wrN; rw [if_neg e], by unfold wrF; rw [if_neg e]⟩, fun j hj => wrF_out h1 hj⟩
  · unfold wrN; split <;> omega
  · unfold wrN
    split
    · rename_i e
      have := wrE_zero e
      omega
    · exact h
theorem wi_pw (g : Bool) (h1 : st ≤ en) (h : en ≤ len) (size : Int) (ns : List Nb) : Wi len st en f (pwE g len en size ns) (pwN g len en size ns) (pwF g hi len st en f size ns) := by
  unfold pwE pwN pwF
  cases g
  · exact wi_same h _
  · exact wi_wr h1 h size ns
theorem wi_gw (g : Bool) (h : en ≤ len) (size : Int) : Wi len st en f (gwE g len en size) (gwN g len en size) f := by
  unfold gwE gwN
  cases g
  · exact wi_same h _
  · exact wi_cl h size
theorem pdE_zero {t : Tk} {n : Nat} (e : pdE len en t n = 0) : lenG t = true ∧ ¬ mx t.a.p < n ∧ 1 ≤ t.siz ∧ (en : Int) + t.siz + n ≤ len := by
  unfold pdE at e
  split at e
  · rename_i hg
    obtain ⟨hs, _⟩ := goods_ok (len_ok hg)
    split at e
    · cases e
    · rename_i hm
      split at e
      · cases e
      · exact ⟨hg, hm, hs.1, by omega⟩
  · cases e
theorem pd_wr {t : Tk} {n : Nat} (e : pdE len en t n = 0) : wrE len en t.siz (lenN t n) = 0 := by
  obtain ⟨_, hm, h1, h2⟩ := pdE_zero e
  unfold wrE lenN
  rw [over_one _ (by exact hm)]
  unfold clE
  rw [if_neg (by decide), if_neg (by omega), if_neg (by omega)]
theorem wi_pd (h1 : st ≤ en) (h : en ≤ len) (t : Tk) (s : ByteArray) : Wi len st en f (pdE len en t s.size) (pdN len en t s.size) (pdF hi len st en f t s) := by
  refine ⟨?_, ?_, fun e => ⟨by unfold pdN; rw [if_neg e], by unfold pdF; rw [if_neg e]⟩, fun j hj => ?_⟩
  · unfold pdN; split <;> omega
  · unfold pdN
    split
    · rename_i e
      have := pdE_zero e
      omega
    · exact h
  · unfold pdF
    unfold pdN at hj
    split
    · rename_i e
      rw [if_pos e] at hj
      rw [lay_out (by omega)]
      have ew := pd_wr e
      exact wrF_out h1 (by unfold wrN; rw [if_pos ew]; omega)
    · rfl
theorem gdE_zero {t : Tk} (e : gdE hi len st en f t = 0) : lenG t = true ∧ 1 ≤ t.siz ∧ 0 ≤ gdn hi st en f t ∧ (en : Int) + t.siz + gdn hi st en f t ≤ len := by
  unfold gdE at e
  split at e
  · rename_i hg
    obtain ⟨hs, hp⟩ := goods_ok (len_ok hg)
    split at e
    · rcases clE_cases len (en + t.siz.toNat) (gdn hi st en f t) with ⟨e2, _⟩ | ⟨e2, _⟩ | ⟨_, h0, h1⟩
      · rw [e2] at e; cases e
      · rw [e2] at e; cases e
      · exact ⟨hg, hs.1, h0, by omega⟩
    · rename_i h2
      exact absurd e h2
  · cases e
theorem wi_gd (h : en ≤ len) (t : Tk) : Wi len st en f (gdE hi len st en f t) (gdN hi len st en f t) f := by
  refine ⟨?_, ?_, fun e => ⟨by unfold gdN; rw [if_neg e], rfl⟩, fun _ _ => rfl⟩
  · unfold gdN; split <;> omega
  · unfold gdN
    split
    · rename_i e
      have := gdE_zero e
      omega
    · exact h
theorem op_wi (h1 : st ≤ en) (h : en ≤ len) (o : Op1) : Wi len st en f (opE hi len st en f o) (opN hi len st en f o) (opF hi len st en f o) := by
  have hk : (o.k < 0 ∨ 11 ≤ o.k) ∨ o.k = 0 ∨ o.k = 1 ∨ o.k = 2 ∨ o.k = 3 ∨ o.k = 4 ∨ o.k = 5 ∨ o.k = 6 ∨ o.k = 7 ∨ o.k = 8 ∨ o.k = 9 ∨ o.k = 10 := by omega
  unfold opE opN opF
  rcases hk with hk | hk | hk | hk | hk | hk | hk | hk | hk | hk | hk | hk
  · rw [if_neg (by omega), if_neg (by omega), if_neg (by omega), if_neg (by omega), if_neg (by omega), if_neg (by omega), if_neg (by omega), if_neg (by omega), if_neg (by omega), if_neg (by omega), if_neg (by omega), if_neg (by omega), if_neg (by omega), if_neg (by omega), if_neg (by omega), if_neg (by omega), if_neg (by omega), if_neg (by omega), if_neg (by omega), if_neg (by omega), if_neg (by omega), if_neg (by omega), if_neg (by omega)]
    exact wi_same h _
  all_goals rw [hk]
  · exact wi_cl h o.n
  · exact wi_same h _
  · exact wi_put h _ _ _
  · exact wi_same h _
  · exact wi_set h _ _ _
  · exact wi_pw _ h1 h _ _
  · exact wi_gw _ h _
  · exact wi_pw _ h1 h _ _
  · exact wi_gw _ h _
  · exact wi_pd h1 h _ _
  · exact wi_gd h _
theorem op_reads {o : Op1} (hw : opW o = false) : opF hi len st en f o = f := by
  have := of_decide_eq_false hw
  unfold opF
  rw [if_neg (by omega), if_neg (by omega), if_neg (by omega), if_neg (by omega), if_neg (by omega)]
end
end Go.Proofs.YtgklippjoikadaaDoor

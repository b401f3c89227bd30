/- CuRo. -/
import Derived.Test.YtgklippjoikadaaDoorK24
import Derived.Test.YtgklippjoikadaaDoorK15
namespace Go.Proofs.YtgklippjoikadaaDoor
open Go.ChangeShapes Go.WideShapes Go.ChangeAt Go.RowKit

theorem rGet_row {W : World} {g len cap : Nat} {f : Nat → Int} (hi : Bool) (R : W.rowIs g 5 cap (fun j => .int .u8 (f j))) (bd : ∀ j, 0 ≤ f j ∧ f j ≤ 255) (h3 : len ≤ cap) (h4 : len ≤ 140737488355328) (a : Nat) (p : Int) (hp : sz p ≠ 0) (ha : a + (sz p).toNat ≤ len) :
    Calls Tryd.prog 51 #[.slice (some ⟨g, 0, none⟩) len cap, .int .i64 a, .int .i64 p, .int .i64 (ordV hi)] W fun e w' => e = .returned (.tuple #[.int .u64 (wrd hi f a p), .int .i64 0]) ∧ w' = W := by
  obtain ⟨e1, e2⟩ := sz_toNat hp
  unfold wrd
  rw [e1]
  have e3 : (((sz p).toNat : Int)).toNat = (sz p).toNat := by omega
  rw [e3]
  exact refGet_ok g len cap a p _ hi (sz p).toNat (fun k => f (a + k)) W rfl e1 e2 (fun j => bd _) (fun j hj => R.cell (by omega)) (by omega) (by omega)
set_option maxRecDepth 20000 in
set_option maxHeartbeats 2000000 in
theorem rGetData_any {w : World} {c g len cap st en : Nat} {hi : Bool} {f : Nat → Int} (h : Cs w c 1 g len cap st en hi f) (t : Tk) (pc : Option Addr) (cc : Nat) :
    Calls Tryd.prog 35 #[.pointer (some ⟨c, 1, none⟩), tkV t pc cc] w fun e w' => e = .returned (.tuple #[.string (gdT hi len st en f t), .int .i64 (gdE hi len st en f t)]) ∧ Cs w' c 1 g len cap st (gdN hi len st en f t) hi f ∧ Cb c 1 g w w' := by
  have G := fun W => rGoodLen_any t pc cc W
  have LD := (tk_of (heap_al w (tkO t pc cc))).load
  have B0 : Hid ((w.alloc (tkO t pc cc)).heap[w.heap.size]? = some (tkO t pc cc)) := heap_al w (tkO t pc cc)
  have H : Hid (Cs w c 1 g len cap st en hi f) := h
  have h1 := h.h1
  have h2 := h.h2
  have h3 := h.h3
  have h4 := h.h4
  unfold gdN gdT
  cases hg : lenG t with
  | false =>
    have e1 : gdE hi len st en f t = 1 := by unfold gdE; rw [hg]; rfl
    rw [hg] at G
    rw [e1, if_neg (by decide), if_neg (by decide)]
    clear h e1
    go_enter Tryd.func35, Tryd.ntmps35
    go_wp2_with (first | (go_at_call 61; refine (G _).mono ?_; rintro e w1 ⟨rfl, hb1⟩) | (guard_target =~ wpList _ _ _ (Oper.mk _ (Op.load 48 _) _ _ _ _ :: _) _ _; go_must (refine wpList_ld 48 _ rfl rfl _ _ rfl LD ?_); simp only [pts]))
    go_ret2
    exact ⟨rfl, H.out.below (belT (bel1 _ _) hb1), Cb.of_below (belT (bel1 _ _) hb1) H.out.lt⟩
  | true =>
    rw [hg] at G
    obtain ⟨hsz, hsp⟩ := goods_ok (len_ok hg)
    have g1 := goodB_ok (hsp (t.a.p, t.a.o) (by simp [lenS]))
    have o1 := goodB_off (hsp (t.a.p, t.a.o) (by simp [lenS])) hsz.2
    dsimp only at o1 g1
    have xc : w.heap.size ≠ c := by have := h.lt; omega
    have xg : w.heap.size ≠ g := by have := h.row.lt; omega
    have RM := fun W (hW : Below w.heap.size w W) => rRoom_any (h.below hW)
    by_cases hr : (len : Int) - en < t.siz
    · have ec : clE len en t.siz = 11 := by unfold clE; rw [if_neg (by omega), if_pos hr]
      have e1 : gdE hi len st en f t = 11 := by unfold gdE; rw [hg, if_pos rfl, ec]; rfl
      have hd : decide ((len : Int) - (en : Int) < t.siz) = true := decide_eq_true hr
      rw [e1, if_neg (by decide), if_neg (by decide)]
      clear h e1 ec hg hsp
      go_enter Tryd.func35, Tryd.ntmps35
      go_wp2_with (first
        | (go_at_call 61; refine (G _).mono ?_; rintro e w1 ⟨rfl, hb1⟩; have k1 : Hid (w1.heap[w.heap.size]? = some (tkO t pc cc)) := (hb1.block _ (by simp)).trans B0.out; obtain ⟨z1, q1, q2, q3, q4, q5⟩ := tk_cells t pc cc k1.out; have hb2 : Hid (Below w.heap.size w w1) := belT (bel1 _ _) hb1; clear hb1)
        | (guard_target =~ wpList _ _ _ (Oper.mk _ (Op.load 48 _) _ _ _ _ :: _) _ _; go_must (refine wpList_ld 48 _ rfl rfl _ _ rfl LD ?_); simp only [pts]))
      have RQ := fun n => RM (w1.drewN n) (below_drewN hb2.out n)
      go_quiet (first | (go_at_call 12; exact Calls.quiet_of (RQ _)))
      go_wp2_with fail
      go_ret2
      exact ⟨rfl, H.out.below (below_drewN hb2.out _), Cb.of_below (below_drewN hb2.out _) H.out.lt⟩
    · obtain ⟨n, hn⟩ : ∃ n : Nat, t.siz = n := ⟨t.siz.toNat, by omega⟩
      obtain ⟨o, ho⟩ : ∃ o : Nat, t.a.o = o := ⟨t.a.o.toNat, by omega⟩
      have ec : clE len en t.siz = 0 := by unfold clE; rw [if_neg (by omega), if_neg hr]
      have s0 : sz t.a.p ≠ 0 := by have := size_cases _ g1.1; omega
      have s1 := sz_toNat s0
      have hw : gdn hi st en f t = wrd hi f (en + o) t.a.p := by
        unfold gdn
        rw [ho, show ((en : Int) + (o : Int)) = ((en + o : Nat) : Int) by omega]
        exact (getW_in s0 (by omega) (by rw [hn]; omega)).1
      have nb := getW_bd hi st (en + t.siz.toNat) f (en + t.a.o) t.a.p g1.1
      have nb' : 0 ≤ gdn hi st en f t ∧ gdn hi st en f t < 4294967296 := nb
      have GG := fun k W (hW : Below w.heap.size w W) => rGet_row hi (h.below (belT hW (dN (n := k)))).row h.bd h3 h4 (en + o) t.a.p s0 (by omega)
      rw [← hw, show ((en + o : Nat) : Int) = (en : Int) + t.a.o by omega] at GG
      have eg : gdE hi len st en f t = clE len (en + n) (gdn hi st en f t) := by unfold gdE; rw [hg, if_pos rfl, if_pos ec, hn]; rfl
      have hd : decide ((len : Int) - (en : Int) < t.siz) = false := decide_eq_false hr
      rw [eg]
      have tn : t.siz.toNat = n := by omega
      rw [tn]
      clear hw nb hg hsp ec
      generalize gdn hi st en f t = v at *
      obtain ⟨m, rfl⟩ : ∃ m : Nat, v = m := ⟨v.toNat, by omega⟩
      have em : ((m : Int)).toNat = m := by omega
      rw [em]
      have r1 : IntKind.i64.wrap ((en : Int) + t.a.o) = (en : Int) + t.a.o := by rw [IntKind.wrap_i64]; omega
      have r2 : IntKind.i64.wrap ((len : Int) - (en : Int) - t.siz) = (len : Int) - (en : Int) - t.siz := by rw [IntKind.wrap_i64]; omega
      have r3 : IntKind.u64.wrap ((len : Int) - (en : Int) - t.siz) = (len : Int) - (en : Int) - t.siz := by rw [IntKind.wrap_u64]; omega
      by_cases hq : (len : Int) - en - t.siz < (m : Int)
      · have ec : clE len (en + n) m = 11 := by unfold clE; rw [if_neg (by omega), if_pos (by omega)]
        have hd2 : decide ((len : Int) - (en : Int) - t.siz < (m : Int)) = true := decide_eq_true hq
        rw [ec, if_neg (by decide), if_neg (by decide)]
        clear h ec em tn hn ho s1 s0 eg g1
        go_enter Tryd.func35, Tryd.ntmps35
        go_wp2_with (first
          | (go_at_call 61; refine (G _).mono ?_; rintro e w1 ⟨rfl, hb1⟩; have k1 : Hid (w1.heap[w.heap.size]? = some (tkO t pc cc)) := (hb1.block _ (by simp)).trans B0.out; obtain ⟨z1, q1, q2, q3, q4, q5⟩ := tk_cells t pc cc k1.out; have hb2 : Hid (Below w.heap.size w w1) := belT (bel1 _ _) hb1; have BB : w1.cell? ⟨c, 1, none⟩ = _ := (H.out.below hb2.out).buf; have TT : w1.cell? ⟨c, 3, none⟩ = _ := (H.out.below hb2.out).to; have OO : w1.cell? ⟨c, 4, none⟩ = _ := (H.out.below hb2.out).ord; clear hb1)
          | (guard_target =~ wpList _ _ _ (Oper.mk _ (Op.load 48 _) _ _ _ _ :: _) _ _; go_must (refine wpList_ld 48 _ rfl rfl _ _ rfl LD ?_); simp only [pts]))
        have RQ := fun n => RM (w1.drewN n) (below_drewN hb2.out n)
        have GQ2 : ∀ a b, Calls Tryd.prog 51 #[.slice (some ⟨g, 0, none⟩) len cap, .int .i64 ((en : Int) + t.a.o), .int .i64 t.a.p, .int .i64 (ordV hi)] (w1.drewN (a + b)) fun e w' => e = .returned (.tuple #[.int .u64 (m : Int), .int .i64 0]) ∧ ∃ n, w' = w1.drewN (a + n) := fun a b => (GG (a + b) w1 hb2.out).mono fun e w' q => ⟨q.1, b, q.2⟩
        have RQ2 : ∀ a b, Calls Tryd.prog 12 #[.pointer (some ⟨c, 1, none⟩)] (w1.drewN (a + b)) fun e w' => e = .returned (.int .i64 ((len : Int) - en)) ∧ ∃ n, w' = w1.drewN (a + n) := fun a b => (RQ (a + b)).mono fun e w' q => by
          obtain ⟨q1, m1, q2⟩ := q
          exact ⟨q1, b + m1, by rw [q2, World.drewN_drewN, Nat.add_assoc]⟩
        go_quiet (first | (go_at_call 12; exact Calls.quiet_of (RQ _)))
        go_wp2_with fail
        go_quiet (first | (go_at_call 51; exact GQ2 _ _))
        go_wp2_with fail
        go_quiet (first | (go_at_call 12; exact RQ2 _ _))
        go_wp2_with fail
        go_ret2
        exact ⟨rfl, H.out.below (below_drewN (below_drewN (below_drewN hb2.out _) _) _), Cb.of_below (below_drewN (below_drewN (below_drewN hb2.out _) _) _) H.out.lt⟩
      · have ec : clE len (en + n) m = 0 := by unfold clE; rw [if_neg (by omega), if_neg (by omega)]
        have hd2 : decide ((len : Int) - (en : Int) - t.siz < (m : Int)) = false := decide_eq_false hq
        rw [ec, if_pos rfl, if_pos rfl]
        have hnm : en + n + m ≤ len := by omega
        have CL := fun W (hW : Below w.heap.size w W) => rClaim_any (h.below hW) t.siz
        have ez := clZ (len := len) (en := en) (n := n) (by omega)
        rw [← hn] at ez
        rw [ez.1, ez.2.1, ez.2.2] at CL
        have r4 : IntKind.i64.wrap (m : Int) = (m : Int) := by rw [IntKind.wrap_i64]; omega
        clear ez
        have l1 : (en : Int) + t.siz ≤ (en : Int) + t.siz + (m : Int) := by omega
        have l2 : (en : Int) + t.siz + (m : Int) ≤ (cap : Int) := by omega
        have l3 : ((en + n : Nat) : Int) = (en : Int) + (n : Int) := by omega
        have l4 : (en : Int) + (n : Int) ≤ (en : Int) + (n : Int) + (m : Int) := by omega
        have l5 : (en : Int) + (n : Int) + (m : Int) ≤ (cap : Int) := by omega
        by_cases hce : en + n = cap
        · have hm0 : Hid (m = 0) := (by omega : m = 0)
          clear h ec em tn hn ho s1 s0 eg g1
          go_enter Tryd.func35, Tryd.ntmps35
          go_wp2_with (first
            | (go_at_call 61; refine (G _).mono ?_; rintro e w1 ⟨rfl, hb1⟩; have k1 : Hid (w1.heap[w.heap.size]? = some (tkO t pc cc)) := (hb1.block _ (by simp)).trans B0.out; obtain ⟨z1, q1, q2, q3, q4, q5⟩ := tk_cells t pc cc k1.out; have hb2 : Hid (Below w.heap.size w w1) := belT (bel1 _ _) hb1; have BB : w1.cell? ⟨c, 1, none⟩ = _ := (H.out.below hb2.out).buf; have TT : w1.cell? ⟨c, 3, none⟩ = _ := (H.out.below hb2.out).to; have OO : w1.cell? ⟨c, 4, none⟩ = _ := (H.out.below hb2.out).ord; clear hb1)
            | (guard_target =~ wpList _ _ _ (Oper.mk _ (Op.load 48 _) _ _ _ _ :: _) _ _; go_must (refine wpList_ld 48 _ rfl rfl _ _ rfl LD ?_); simp only [pts]))
          have RQ := fun n => RM (w1.drewN n) (below_drewN hb2.out n)
          have GQ2 : ∀ a b, Calls Tryd.prog 51 #[.slice (some ⟨g, 0, none⟩) len cap, .int .i64 ((en : Int) + t.a.o), .int .i64 t.a.p, .int .i64 (ordV hi)] (w1.drewN (a + b)) fun e w' => e = .returned (.tuple #[.int .u64 (m : Int), .int .i64 0]) ∧ ∃ n, w' = w1.drewN (a + n) := fun a b => (GG (a + b) w1 hb2.out).mono fun e w' q => ⟨q.1, b, q.2⟩
          have RQ2 : ∀ a b, Calls Tryd.prog 12 #[.pointer (some ⟨c, 1, none⟩)] (w1.drewN (a + b)) fun e w' => e = .returned (.int .i64 ((len : Int) - en)) ∧ ∃ n, w' = w1.drewN (a + n) := fun a b => (RQ (a + b)).mono fun e w' q => by
            obtain ⟨q1, m1, q2⟩ := q
            exact ⟨q1, b + m1, by rw [q2, World.drewN_drewN, Nat.add_assoc]⟩
          go_quiet (first | (go_at_call 12; exact Calls.quiet_of (RQ _)))
          go_wp2_with fail
          go_quiet (first | (go_at_call 51; exact GQ2 _ _))
          go_wp2_with fail
          go_quiet (first | (go_at_call 12; exact RQ2 _ _))
          go_wp2_with (first
            | (go_at_call 23; refine (CL _ (below_drewN hb2.out _)).mono ?_; rintro _ w5 ⟨rfl, C5, D5⟩; have CM := rClaim_any C5 (m : Int); have ey := clZ (len := len) (en := en + n) (n := m) hnm; rw [ey.1, ey.2.1, ey.2.2] at CM; clear ey CL; replace C5 : Hid _ := C5; replace D5 : Hid _ := D5)
            | (go_at_call 23; refine CM.mono ?_; rintro _ w6 ⟨rfl, C6, D6⟩; have BU : w6.cell? ⟨c, 1, none⟩ = _ := C6.buf; have cv := fun q => (text_conv w6 g cap f C6.row 0 m q (by have := hm0.out; omega)).trans (congrArg (fun t => Result.ok (Value.string t) w6) (show textF f 0 m = textF f (en + n) m by rw [hm0.out]; rfl)); replace C6 : Hid _ := C6; replace D6 : Hid _ := D6))
          go_ret2
          exact ⟨(by rw [hce]; try rfl), C6.out, ((Cb.of_below (below_drewN hb2.out _) H.out.lt).trans D5.out).trans D6.out⟩
        · skip
          clear h ec em tn hn ho s1 s0 eg g1
          go_enter Tryd.func35, Tryd.ntmps35
          go_wp2_with (first
            | (go_at_call 61; refine (G _).mono ?_; rintro e w1 ⟨rfl, hb1⟩; have k1 : Hid (w1.heap[w.heap.size]? = some (tkO t pc cc)) := (hb1.block _ (by simp)).trans B0.out; obtain ⟨z1, q1, q2, q3, q4, q5⟩ := tk_cells t pc cc k1.out; have hb2 : Hid (Below w.heap.size w w1) := belT (bel1 _ _) hb1; have BB : w1.cell? ⟨c, 1, none⟩ = _ := (H.out.below hb2.out).buf; have TT : w1.cell? ⟨c, 3, none⟩ = _ := (H.out.below hb2.out).to; have OO : w1.cell? ⟨c, 4, none⟩ = _ := (H.out.below hb2.out).ord; clear hb1)
            | (guard_target =~ wpList _ _ _ (Oper.mk _ (Op.load 48 _) _ _ _ _ :: _) _ _; go_must (refine wpList_ld 48 _ rfl rfl _ _ rfl LD ?_); simp only [pts]))
          have RQ := fun n => RM (w1.drewN n) (below_drewN hb2.out n)
          have GQ2 : ∀ a b, Calls Tryd.prog 51 #[.slice (some ⟨g, 0, none⟩) len cap, .int .i64 ((en : Int) + t.a.o), .int .i64 t.a.p, .int .i64 (ordV hi)] (w1.drewN (a + b)) fun e w' => e = .returned (.tuple #[.int .u64 (m : Int), .int .i64 0]) ∧ ∃ n, w' = w1.drewN (a + n) := fun a b => (GG (a + b) w1 hb2.out).mono fun e w' q => ⟨q.1, b, q.2⟩
          have RQ2 : ∀ a b, Calls Tryd.prog 12 #[.pointer (some ⟨c, 1, none⟩)] (w1.drewN (a + b)) fun e w' => e = .returned (.int .i64 ((len : Int) - en)) ∧ ∃ n, w' = w1.drewN (a + n) := fun a b => (RQ (a + b)).mono fun e w' q => by
            obtain ⟨q1, m1, q2⟩ := q
            exact ⟨q1, b + m1, by rw [q2, World.drewN_drewN, Nat.add_assoc]⟩
          go_quiet (first | (go_at_call 12; exact Calls.quiet_of (RQ _)))
          go_wp2_with fail
          go_quiet (first | (go_at_call 51; exact GQ2 _ _))
          go_wp2_with fail
          go_quiet (first | (go_at_call 12; exact RQ2 _ _))
          go_wp2_with (first
            | (go_at_call 23; refine (CL _ (below_drewN hb2.out _)).mono ?_; rintro _ w5 ⟨rfl, C5, D5⟩; have CM := rClaim_any C5 (m : Int); have ey := clZ (len := len) (en := en + n) (n := m) hnm; rw [ey.1, ey.2.1, ey.2.2] at CM; clear ey CL; replace C5 : Hid _ := C5; replace D5 : Hid _ := D5)
            | (go_at_call 23; refine CM.mono ?_; rintro _ w6 ⟨rfl, C6, D6⟩; have BU : w6.cell? ⟨c, 1, none⟩ = _ := C6.buf; have cv := fun q => text_conv w6 g cap f C6.row (en + n) m q (by omega); replace C6 : Hid _ := C6; replace D6 : Hid _ := D6))
          go_ret2
          exact ⟨rfl, C6.out, ((Cb.of_below (below_drewN hb2.out _) H.out.lt).trans D5.out).trans D6.out⟩
end Go.Proofs.YtgklippjoikadaaDoor

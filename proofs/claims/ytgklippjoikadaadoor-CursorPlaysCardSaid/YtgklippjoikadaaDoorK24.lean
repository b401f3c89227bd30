/- CuRn. -/
import Derived.Test.YtgklippjoikadaaDoorK21
import Derived.Test.YtgklippjoikadaaDoorK23
import Derived.Test.YtgklippjoikadaaDoorK20
namespace Go.Proofs.YtgklippjoikadaaDoor
open Go.ChangeShapes Go.WideShapes Go.ChangeAt Go.RowKit

set_option maxRecDepth 20000 in
set_option maxHeartbeats 2000000 in
theorem rPutData_any {w : World} {c g len cap st en : Nat} {hi : Bool} {f : Nat → Int} (h : Cs w c 1 g len cap st en hi f) (t : Tk) (pc : Option Addr) (cc : Nat) (s : ByteArray) (hs : s.size ≤ 281474976710656) :
    Calls Tryd.prog 34 #[.pointer (some ⟨c, 1, none⟩), tkV t pc cc, .string s] w fun e w' => e = .returned (.int .i64 (pdE len en t s.size)) ∧ Cs w' c 1 g len cap st (pdN len en t s.size) hi (pdF hi len st en f t s) ∧ Cb c 1 g w w' := by
  have G := fun W => rGoodLen_any t pc cc W
  have LD := (tk_of (heap_al w (tkO t pc cc))).load
  have B0 : Hid ((w.alloc (tkO t pc cc)).heap[w.heap.size]? = some (tkO t pc cc)) := heap_al w (tkO t pc cc)
  have H : Hid (Cs w c 1 g len cap st en hi f) := h
  have h2 := h.h2
  have h3 := h.h3
  have h4 := h.h4
  unfold pdN pdF
  cases hg : lenG t with
  | false =>
    have e1 : pdE len en t s.size = 1 := by unfold pdE; rw [hg]; rfl
    rw [hg] at G
    rw [e1, if_neg (by decide), if_neg (by decide)]
    clear h e1
    go_enter Tryd.func34, Tryd.ntmps34
    go_wp2_with (first | (go_at_call 61; refine (G _).mono ?_; rintro e w1 ⟨rfl, hb1⟩) | (guard_target =~ wpList _ _ _ (Oper.mk _ (Op.load 48 _) _ _ _ _ :: _) _ _; go_must (refine wpList_ld 48 _ rfl rfl _ _ rfl LD ?_); simp only [pts]))
    go_ret
    exact ⟨rfl, H.out.below (belT (bel1 _ _) hb1), Cb.of_below (belT (bel1 _ _) hb1) H.out.lt⟩
  | true =>
    rw [hg] at G
    obtain ⟨hsz, hsp⟩ := goods_ok (len_ok hg)
    have g1 := goodB_ok (hsp (t.a.p, t.a.o) (by simp [lenS]))
    have o1 := goodB_off (hsp (t.a.p, t.a.o) (by simp [lenS])) hsz.2
    dsimp only at o1 g1
    have mb := mx_bd g1.1
    have xc : w.heap.size ≠ c := by have := h.lt; omega
    have xg : w.heap.size ≠ g := by have := h.row.lt; omega
    have M1 := fun W => rMost_any t.a.p t.a.o (s.size : Int) (by omega) W
    have RM := fun W (hW : Below w.heap.size w W) => rRoom_any (h.below hW)
    by_cases hm : mx t.a.p < (s.size : Int)
    · have e1 : pdE len en t s.size = 164 := by unfold pdE; rw [hg, if_pos rfl, if_pos hm]
      have ed : decide (0 ≤ (s.size : Int) ∧ (s.size : Int) ≤ mx t.a.p) = false := decide_eq_false (by omega)
      rw [ed] at M1
      rw [e1, if_neg (by decide), if_neg (by decide)]
      clear h e1 ed hm hg hsp
      go_enter Tryd.func34, Tryd.ntmps34
      go_wp2_with (first
       | (go_at_call 61; refine (G _).mono ?_; rintro e w1 ⟨rfl, hb1⟩; have k1 : Hid (w1.heap[w.heap.size]? = some (tkO t pc cc)) := (hb1.block _ (by simp)).trans B0.out; obtain ⟨z1, q1, q2, q3, q4, q5⟩ := tk_cells t pc cc k1.out; have hb2 : Hid (Below w.heap.size w w1) := belT (bel1 _ _) hb1; clear hb1)
       | (guard_target =~ wpList _ _ _ (Oper.mk _ (Op.load 48 _) _ _ _ _ :: _) _ _; go_must (refine wpList_ld 48 _ rfl rfl _ _ rfl LD ?_); simp only [pts])
       | (go_at_call 60; refine (M1 _).mono ?_; rintro e w3 ⟨rfl, hb4⟩; have k3 : Hid (w3.heap[w.heap.size]? = some (tkO t pc cc)) := (hb4.block _ z1).trans k1.out; obtain ⟨x1, x2, x3, x4, x5, x6⟩ := tk_cells t pc cc k3.out; have hb6 : Hid (Below w.heap.size w w3) := belT hb2.out hb4))
      go_ret
      exact ⟨rfl, H.out.below hb6.out, Cb.of_below hb6.out H.out.lt⟩
    · have ed : decide (0 ≤ (s.size : Int) ∧ (s.size : Int) ≤ mx t.a.p) = true := decide_eq_true (by omega)
      rw [ed] at M1
      by_cases hr : (len : Int) - en - t.siz < s.size
      · have e1 : pdE len en t s.size = 11 := by unfold pdE; rw [hg, if_pos rfl, if_neg hm, if_pos hr]
        rw [e1, if_neg (by decide), if_neg (by decide)]
        clear h e1 ed hm hg hsp
        by_cases hq : (len : Int) - en < t.siz
        · clear hr
          have hd : decide ((len : Int) - (en : Int) < t.siz) = true := decide_eq_true hq
          go_enter Tryd.func34, Tryd.ntmps34
          go_wp2_with (first
           | (go_at_call 61; refine (G _).mono ?_; rintro e w1 ⟨rfl, hb1⟩; have k1 : Hid (w1.heap[w.heap.size]? = some (tkO t pc cc)) := (hb1.block _ (by simp)).trans B0.out; obtain ⟨z1, q1, q2, q3, q4, q5⟩ := tk_cells t pc cc k1.out; have hb2 : Hid (Below w.heap.size w w1) := belT (bel1 _ _) hb1; clear hb1)
           | (guard_target =~ wpList _ _ _ (Oper.mk _ (Op.load 48 _) _ _ _ _ :: _) _ _; go_must (refine wpList_ld 48 _ rfl rfl _ _ rfl LD ?_); simp only [pts])
           | (go_at_call 60; refine (M1 _).mono ?_; rintro e w3 ⟨rfl, hb4⟩; have k3 : Hid (w3.heap[w.heap.size]? = some (tkO t pc cc)) := (hb4.block _ z1).trans k1.out; obtain ⟨x1, x2, x3, x4, x5, x6⟩ := tk_cells t pc cc k3.out; have hb6 : Hid (Below w.heap.size w w3) := belT hb2.out hb4))
          have RQ := fun n => RM (w3.drewN n) (below_drewN hb6.out n)
          go_quiet (first | (go_at_call 12; exact Calls.quiet_of (RQ _)))
          go_wp2_with fail
          go_ret
          exact ⟨rfl, H.out.below (below_drewN hb6.out _), Cb.of_below (below_drewN hb6.out _) H.out.lt⟩
        · have hd : decide ((len : Int) - (en : Int) < t.siz) = false := decide_eq_false hq
          have hd2 : decide ((len : Int) - (en : Int) - t.siz < (s.size : Int)) = true := decide_eq_true hr
          go_enter Tryd.func34, Tryd.ntmps34
          go_wp2_with (first
           | (go_at_call 61; refine (G _).mono ?_; rintro e w1 ⟨rfl, hb1⟩; have k1 : Hid (w1.heap[w.heap.size]? = some (tkO t pc cc)) := (hb1.block _ (by simp)).trans B0.out; obtain ⟨z1, q1, q2, q3, q4, q5⟩ := tk_cells t pc cc k1.out; have hb2 : Hid (Below w.heap.size w w1) := belT (bel1 _ _) hb1; clear hb1)
           | (guard_target =~ wpList _ _ _ (Oper.mk _ (Op.load 48 _) _ _ _ _ :: _) _ _; go_must (refine wpList_ld 48 _ rfl rfl _ _ rfl LD ?_); simp only [pts])
           | (go_at_call 60; refine (M1 _).mono ?_; rintro e w3 ⟨rfl, hb4⟩; have k3 : Hid (w3.heap[w.heap.size]? = some (tkO t pc cc)) := (hb4.block _ z1).trans k1.out; obtain ⟨x1, x2, x3, x4, x5, x6⟩ := tk_cells t pc cc k3.out; have hb6 : Hid (Below w.heap.size w w3) := belT hb2.out hb4))
          have RQ := fun n => RM (w3.drewN n) (below_drewN hb6.out n)
          go_quiet (first | (go_at_call 12; exact Calls.quiet_of (RQ _)))
          go_wp2_with fail
          go_ret
          exact ⟨rfl, H.out.below (below_drewN hb6.out _), Cb.of_below (below_drewN hb6.out _) H.out.lt⟩
      · obtain ⟨n, hn⟩ : ∃ n : Nat, t.siz = n := ⟨t.siz.toNat, by omega⟩
        have e1 : pdE len en t s.size = 0 := by unfold pdE; rw [hg, if_pos rfl, if_neg hm, if_neg hr]
        have ew := pd_wr e1
        rw [e1, if_pos rfl, if_pos rfl]
        unfold wrF
        rw [ew, if_pos rfl, hn, show ((n : Int)).toNat = n by omega]
        have Z := fun W (hW : Below w.heap.size w W) => rZero_any (h.below hW) n (by omega)
        rw [← hn] at Z
        have hn1 : n ≤ 65535 := by omega
        have hd : decide ((len : Int) - (en : Int) < t.siz) = false := decide_eq_false (by omega)
        have hd2 : decide ((len : Int) - (en : Int) - t.siz < (s.size : Int)) = false := decide_eq_false hr
        have hns : en + n + s.size ≤ len := by omega
        have bd := h.bd
        clear h e1 ed hm hg hsp ew hn
        go_enter Tryd.func34, Tryd.ntmps34
        go_wp2_with (first
         | (go_at_call 61; refine (G _).mono ?_; rintro e w1 ⟨rfl, hb1⟩; have k1 : Hid (w1.heap[w.heap.size]? = some (tkO t pc cc)) := (hb1.block _ (by simp)).trans B0.out; obtain ⟨z1, q1, q2, q3, q4, q5⟩ := tk_cells t pc cc k1.out; have hb2 : Hid (Below w.heap.size w w1) := belT (bel1 _ _) hb1; clear hb1)
         | (guard_target =~ wpList _ _ _ (Oper.mk _ (Op.load 48 _) _ _ _ _ :: _) _ _; go_must (refine wpList_ld 48 _ rfl rfl _ _ rfl LD ?_); simp only [pts])
         | (go_at_call 60; refine (M1 _).mono ?_; rintro e w3 ⟨rfl, hb4⟩; have k3 : Hid (w3.heap[w.heap.size]? = some (tkO t pc cc)) := (hb4.block _ z1).trans k1.out; obtain ⟨x1, x2, x3, x4, x5, x6⟩ := tk_cells t pc cc k3.out; have hb6 : Hid (Below w.heap.size w w3) := belT hb2.out hb4))
        have RQ := fun n => RM (w3.drewN n) (below_drewN hb6.out n)
        go_quiet (first | (go_at_call 12; exact Calls.quiet_of (RQ _)))
        go_wp2_with (first
          | (go_at_call 58; refine (Z _ (below_drewN hb6.out _)).mono ?_; rintro _ w5 ⟨rfl, C5, D5⟩; have k5 : Hid (w5.heap[w.heap.size]? = some (tkO t pc cc)) := (D5.block _ x1 xc xg).trans k3.out; obtain ⟨r1, r2, r3, r4, r5, r6⟩ := tk_cells t pc cc k5.out; have P1 := rPut_any C5 ((en : Int) + t.a.o) t.a.p (s.size : Int) (by omega) (by omega); replace C5 : Hid _ := C5; replace D5 : Hid _ := D5)
          | (go_at_call 25; refine P1.mono ?_; rintro _ w6 ⟨rfl, C6, D6⟩; have CL := rClaim_any C6 (s.size : Int); have ez := clZ (len := len) (en := en + n) (n := s.size) hns; rw [ez.1, ez.2.1, ez.2.2] at CL; clear ez; replace C6 : Hid _ := C6; replace D6 : Hid _ := D6)
          | (go_at_call 23; refine CL.mono ?_; rintro _ w7 ⟨rfl, C7, D7⟩; replace C7 : Hid _ := C7; replace D7 : Hid _ := D7))
        have C8 := C7.out
        generalize hF : putF hi st (en + n) (lay f en n ByteArray.empty) ((en : Int) + t.a.o) t.a.p (s.size : Int) = F0 at C8
        replace hF : Hid _ := hF
        have bF := C8.bd
        have cn := C8.ne
        go_loopw [8] (fun i wr => ∃ k : Nat, k ≤ s.size ∧ i = .int .i64 k ∧ Cs wr c 1 g len cap st (en + n + s.size) hi (lay F0 (en + n) k s) ∧ Only g w7 wr) (fun i _ => s.size - (intOf i).toNat)
        case atStart => exact ⟨0, Nat.zero_le _, rfl, C8.only (Only.refl _ _) (C8.row.congr fun j _ => by unfold lay; rw [if_neg (by omega)]) (lay_bd bF _ _ _), Only.refl _ _⟩
        case round =>
          obtain ⟨k, hk, rfl, X1, X2⟩ := hrel
          clear C8
          rename World => wr
          by_cases hlt : k < s.size
          · have b1 : wr.cell? ⟨c, 1, none⟩ = _ := X1.buf
            have c0 := X1.row.cell (i := en + n + k) (by omega)
            have c1 := X1.row.frozen (en + n + k)
            have l1 : (en : Int) + (n : Int) + (k : Int) < (len : Int) := by omega
            have l2 : (k : Int) < (s.size : Int) := by omega
            have ek := chF_at s k hlt
            have O1 : Only g wr (wr.setCell ⟨g, en + n + k, none⟩ (.int .u8 ((s[k]'hlt).toNat : Int))) := only_setCell (Only.refl _ _) _ _
            have O2 : Hid (Only g w7 (wr.setCell ⟨g, en + n + k, none⟩ (.int .u8 ((s[k]'hlt).toNat : Int))).drew) := (only_setCell X2 _ _).trans_below (Below.refl _ _).drew
            have X4 : Hid (Cs (wr.setCell ⟨g, en + n + k, none⟩ (.int .u8 ((s[k]'hlt).toNat : Int))).drew c 1 g len cap st (en + n + s.size) hi (lay F0 (en + n) (k + 1) s)) := (X1.only O1 ((X1.row.set (en + n + k) (.int .u8 ((s[k]'hlt).toNat : Int))).congr fun j _ => by
              unfold lay
              by_cases e : j = en + n + k
              · subst e; rw [if_pos rfl, if_pos (by omega), show en + n + k - (en + n) = k by omega, ek]
              · rw [if_neg e]
                by_cases e2 : en + n ≤ j ∧ j < en + n + k
                · rw [if_pos e2, if_pos (by omega)]
                · rw [if_neg e2, if_neg (by omega)]) (fun j => lay_bd bF _ _ _ j)).below (Below.refl _ _).drew
            clear X1 X2 O1
            go_wp2_with fail
            go_region
            go_wp2_with fail
            go_roundw
            case rel => exact ⟨k + 1, by omega, by go_num, X4.out, O2.out⟩
            case measure => simp [intOf]; omega
          · obtain rfl : k = s.size := by omega
            have l2 : ¬ (s.size : Int) < (s.size : Int) := by omega
            go_wp2_with fail
            go_ret
            have hF' := hF.out
            subst hF'
            exact ⟨rfl, X1, ((((Cb.of_below (below_drewN hb6.out _) H.out.lt).trans D5.out).trans (Cb.of_only D6.out C5.out.lt C5.out.ne)).trans D7.out).trans (Cb.of_only X2 C7.out.lt C7.out.ne)⟩
end Go.Proofs.YtgklippjoikadaaDoor

/- The document's Put. -/
import Derived.Test.YtfhphjgcmbneeaaDoorPRg
namespace Go.Proofs.YtfhphjgcmbneeaaDoor
open Go.ChangeShapes Go.WideShapes Go.ChangeAt Go.RowKit

def dvF (x : Int) (m : Nat) : Int := x / 2 ^ (8 * m)
theorem dvF_zero (x : Int) : dvF x 0 = x := by simp [dvF]
theorem dvF_succ (x : Int) (m : Nat) : dvF x (m + 1) = dvF x m / 256 := by
  unfold dvF
  rw [show 8 * (m + 1) = 8 * m + 8 by omega, Int.pow_add, ← Int.ediv_ediv_of_nonneg]
  · rfl
  · exact Int.le_of_lt (Int.pow_pos (by decide))
theorem dvF_bd (x : Int) (m : Nat) (h0 : 0 ≤ x) (h1 : x < 18446744073709551616) : 0 ≤ dvF x m ∧ dvF x m < 18446744073709551616 := by
  induction m with
  | zero => rw [dvF_zero]; exact ⟨h0, h1⟩
  | succ m ih => rw [dvF_succ]; omega
theorem place_place (hi : Bool) (s m : Nat) (h : m < s) : placeN hi s (placeN hi s m) = m := by unfold placeN; split <;> omega
theorem place_lt (hi : Bool) (s m : Nat) (h : m < s) : placeN hi s m < s := by unfold placeN; split <;> omega
theorem byte_dv (hi : Bool) (s m : Nat) (x : Int) (h : m < s) : byteF hi s x (placeN hi s m) = dvF x m % 256 := by
  unfold byteF dvF
  have : (shI hi s (placeN hi s m : Nat)).toNat = 8 * m := by unfold shI placeN; cases hi <;> simp <;> omega
  rw [this]
set_option maxHeartbeats 1000000 in
theorem refPut_ok (g len cap at' : Nat) (p o x : Int) (hi : Bool) (s : Nat) (f : Nat → Value) (w : World) (R : w.rowIs g 5 cap f)
    (ho : o = if hi then 1 else 0) (hs : sz p = s) (h4 : s = 1 ∨ s = 2 ∨ s = 4 ∨ s = 8) (hx0 : 0 ≤ x) (hx1 : x < 18446744073709551616) (hft : fitsF (sz p) (rd p) x = true)
    (hat : at' + s ≤ len) (hlc : len ≤ cap) (hl : len ≤ 9223372036854775700) :
    Calls Tryd.prog 62 #[.slice (some ⟨g, 0, none⟩) len cap, .int .i64 at', .int .i64 p, .int .i64 o, .int .u64 x] w fun e w' => e = .returned (.int .i64 0) ∧ Below g w w' ∧
      w'.rowIs g 5 cap (fun j => if at' ≤ j ∧ j < at' + s then .int .u8 (byteF hi s x (j - at')) else f j) := by
  have HO : Hid (o = if hi then 1 else 0) := ho
  have ho1 : decide (o = 0 ∨ o = 1) = true := decide_eq_true (by rw [ho]; cases hi <;> simp)
  have hin : inB len at' s = true := inB_yes (by omega)
  have sn0 : ((s : Int) == 0) = false := by simp; omega
  have hft2 : fitsF s (rd p) x = true := by rw [← hs]; exact hft
  clear ho hft
  go_enter Tryd.func62, Tryd.ntmps62
  go_wp2_with (first
    | (go_at_call 58; refine (refSize_any _ _).mono ?_; rintro e w1 ⟨rfl, rfl⟩)
    | (go_at_call 61; refine (refFits_any _ _ _ hx0 hx1).mono ?_; rintro e w1 ⟨rfl, rfl⟩)
    | (go_at_call 71; refine (refOrder_any _ _).mono ?_; rintro e w1 ⟨rfl, rfl⟩)
    | (go_at_call 72; refine (refLies_any _ _ _ _ (by omega) (by omega)).mono ?_; rintro e w1 ⟨rfl, rfl⟩))
  rename World => w0
  go_loopw [4, 12] (fun b i wr => ∃ m : Nat, m ≤ s ∧ i = .int .i64 m ∧ b = .int .u64 (dvF x m) ∧ Below g w0 wr ∧ wr.rowIs g 5 cap (fun j => if at' ≤ j ∧ j < at' + s ∧ placeN hi s (j - at') < m then .int .u8 (byteF hi s x (j - at')) else f j)) (fun _ i _ => s - (intOf i).toNat)
  case atStart => exact ⟨0, by omega, rfl, by rw [dvF_zero], Below.refl _ _, R.congr fun j _ => by rw [if_neg (by omega)]⟩
  case round =>
    obtain ⟨m, hm, rfl, rfl, HB, HR⟩ := hrel
    have db := dvF_bd x m hx0 hx1
    have DS : Hid (dvF x (m + 1) = dvF x m / 256) := dvF_succ x m
    by_cases hlt : m < s
    · have pl := place_lt hi s m hlt
      have cb := HR.cell (i := at' + placeN hi s m) (by omega)
      have fb := HR.frozen (at' + placeN hi s m)
      have lt : (at' : Int) + (placeN hi s m : Int) < (len : Int) := by omega
      have BD : Hid (byteF hi s x (placeN hi s m) = dvF x m % 256) := byte_dv hi s m x hlt
      go_wp2_with (go_at_call 73; refine (refPlace_any _ _ _ _ hi _ HO.out (by omega) (by omega) (by omega)).mono ?_; rintro e w1 ⟨rfl, rfl⟩)
      go_roundw
      case rel =>
        refine ⟨m + 1, by omega, by go_num, by rw [DS.out], HB.setCell (Nat.le_refl _) _, (HR.set _ _).congr fun j _ => ?_⟩
        by_cases e : j = at' + placeN hi s m
        · subst e
          rw [if_pos rfl, show at' + placeN hi s m - at' = placeN hi s m by omega, if_pos ⟨by omega, by omega, by rw [place_place hi s m hlt]; omega⟩, BD.out]
        · rw [if_neg e]
          by_cases c : at' ≤ j ∧ j < at' + s ∧ placeN hi s (j - at') < m
          · rw [if_pos c, if_pos (by omega)]
          · rw [if_neg c, if_neg]
            intro c2
            have : placeN hi s (j - at') = m := by omega
            have h2 := place_place hi s (j - at') (by omega)
            rw [this] at h2
            omega
      case measure => simp [intOf]; omega
    · obtain rfl : m = s := by omega
      go_wp2
      go_ret
      refine ⟨rfl, HB, HR.congr fun j _ => ?_⟩
      by_cases c : at' ≤ j ∧ j < at' + m
      · rw [if_pos c, if_pos ⟨c.1, c.2, place_lt hi m _ (by omega)⟩]
      · rw [if_neg c, if_neg (by omega)]
theorem refPut_prim (a : Option Addr) (len cap : Nat) (at' p o x : Int) (w : World) (hp : sz p = 0 ∨ (sz p ≠ 0 ∧ (o < 0 ∨ 2 ≤ o))) :
    Calls Tryd.prog 62 #[.slice a len cap, .int .i64 at', .int .i64 p, .int .i64 o, .int .u64 x] w fun e w' => e = .returned (.int .i64 10) ∧ w' = w := by
  rcases hp with hp | ⟨hp, ho⟩
  · go_enter Tryd.func62, Tryd.ntmps62
    go_wp2_with (first
      | (go_at_call 58; refine (refSize_any _ _).mono ?_; rintro e w1 ⟨rfl, rfl⟩)
      | (go_at_call 71; refine (refOrder_any _ _).mono ?_; rintro e w1 ⟨rfl, rfl⟩))
    go_ret
    exact ⟨rfl, rfl⟩
  · have hp' : (sz p == 0) = false := by simpa using hp
    have ho1 : decide (o = 0 ∨ o = 1) = false := decide_eq_false (by omega)
    go_enter Tryd.func62, Tryd.ntmps62
    go_wp2_with (first
      | (go_at_call 58; refine (refSize_any _ _).mono ?_; rintro e w1 ⟨rfl, rfl⟩)
      | (go_at_call 71; refine (refOrder_any _ _).mono ?_; rintro e w1 ⟨rfl, rfl⟩))
    go_ret
    exact ⟨rfl, rfl⟩
theorem refPut_range (a : Option Addr) (len cap : Nat) (at' p o x : Int) (w : World) (ho : o = 0 ∨ o = 1) (hp : sz p ≠ 0) (hx0 : 0 ≤ x) (hx1 : x < 18446744073709551616) (hft : fitsF (sz p) (rd p) x = false) :
    Calls Tryd.prog 62 #[.slice a len cap, .int .i64 at', .int .i64 p, .int .i64 o, .int .u64 x] w fun e w' => e = .returned (.int .i64 12) ∧ w' = w := by
  have hp' : (sz p == 0) = false := by simpa using hp
  have ho1 : decide (o = 0 ∨ o = 1) = true := decide_eq_true ho
  clear ho
  go_enter Tryd.func62, Tryd.ntmps62
  go_wp2_with (first
    | (go_at_call 58; refine (refSize_any _ _).mono ?_; rintro e w1 ⟨rfl, rfl⟩)
    | (go_at_call 61; refine (refFits_any _ _ _ hx0 hx1).mono ?_; rintro e w1 ⟨rfl, rfl⟩)
    | (go_at_call 71; refine (refOrder_any _ _).mono ?_; rintro e w1 ⟨rfl, rfl⟩))
  go_ret
  exact ⟨rfl, rfl⟩
theorem refPut_short (a : Option Addr) (len cap : Nat) (at' p o x : Int) (w : World) (ho : o = 0 ∨ o = 1) (hp : sz p ≠ 0) (hx0 : 0 ≤ x) (hx1 : x < 18446744073709551616) (hft : fitsF (sz p) (rd p) x = true) (hl : len ≤ 9223372036854775807) (hs : inB len at' (sz p) = false) :
    Calls Tryd.prog 62 #[.slice a len cap, .int .i64 at', .int .i64 p, .int .i64 o, .int .u64 x] w fun e w' => e = .returned (.int .i64 11) ∧ w' = w := by
  have hp' : (sz p == 0) = false := by simpa using hp
  have ho1 : decide (o = 0 ∨ o = 1) = true := decide_eq_true ho
  clear ho
  go_enter Tryd.func62, Tryd.ntmps62
  go_wp2_with (first
    | (go_at_call 58; refine (refSize_any _ _).mono ?_; rintro e w1 ⟨rfl, rfl⟩)
    | (go_at_call 61; refine (refFits_any _ _ _ hx0 hx1).mono ?_; rintro e w1 ⟨rfl, rfl⟩)
    | (go_at_call 71; refine (refOrder_any _ _).mono ?_; rintro e w1 ⟨rfl, rfl⟩)
    | (go_at_call 72; refine (refLies_any _ _ _ _ (by omega) (by omega)).mono ?_; rintro e w1 ⟨rfl, rfl⟩))
  go_ret
  exact ⟨rfl, rfl⟩
end Go.Proofs.YtfhphjgcmbneeaaDoor

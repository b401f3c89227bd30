/- PRg, PRp, PCh. -/
import Derived.Test.YtgklippjoikadaaDoorK03
import Derived.Test.YtgklippjoikadaaDoorK05
namespace Go.Proofs.YtgklippjoikadaaDoor
open Go.ChangeShapes Go.WideShapes Go.ChangeAt Go.RowKit

theorem ret_tup {k : IntKind} {a b : Int} {v : Value} (h : a = b) : Ending.returned (.tuple #[.int k a, v]) = .returned (.tuple #[.int k b, v]) := by rw [h]
theorem refOrder_any (o : Int) (w : World) : Calls Tryd.prog 69 #[.int .i64 o] w fun e w' => e = .returned (.bool (decide (o = 0 ∨ o = 1))) ∧ w' = w := by
  by_cases h0 : o = 0
  · subst h0
    go_enter Tryd.func69, Tryd.ntmps69
    go_wp2
    go_ret
    exact ⟨rfl, rfl⟩
  · have g0 : (o == 0) = false := by simpa using h0
    have e : decide (o = 0 ∨ o = 1) = (o == 1) := by
      by_cases h1 : o = 1
      · subst h1; rfl
      · rw [decide_eq_false (by omega)]; symm; simpa using h1
    rw [e]; clear e
    go_enter Tryd.func69, Tryd.ntmps69
    go_wp2
    go_ret
    exact ⟨rfl, rfl⟩
/-- Do n bytes from a place on lie in so many? -/
def inB (size at' n : Int) : Bool := decide (0 ≤ at' ∧ 0 ≤ n ∧ at' + n ≤ size)
theorem inB_no {size at' n : Int} (h : ¬ (0 ≤ at' ∧ 0 ≤ n ∧ at' + n ≤ size)) : inB size at' n = false := decide_eq_false h
theorem inB_yes {size at' n : Int} (h : 0 ≤ at' ∧ 0 ≤ n ∧ at' + n ≤ size) : inB size at' n = true := decide_eq_true h
theorem within_in (a : Option Addr) (len cap : Nat) (at' n : Int) (w : World) (hl : len ≤ 9223372036854775807) (hn : n ≤ 9223372036854775807) :
    Calls Tryd.prog 67 #[.slice a len cap, .int .i64 at', .int .i64 n] w fun e w' => e = .returned (.bool (inB len at' n)) ∧ w' = w := by
  refine (within_any a len cap at' n w hl hn).mono fun e w' ⟨he, hw⟩ => ⟨he.trans (ret_bool ?_), hw⟩
  unfold inB
  by_cases h0 : 0 ≤ at' <;> by_cases h1 : 0 ≤ n <;> simp [h0, h1]
  omega
theorem refLies_any (size at' n : Int) (w : World) (hs0 : 0 ≤ size) (hs : size ≤ 9223372036854775807) :
    Calls Tryd.prog 70 #[.int .i64 size, .int .i64 at', .int .i64 n] w fun e w' => e = .returned (.bool (inB size at' n)) ∧ w' = w := by
  by_cases h0 : 0 ≤ at'
  · have d0 : decide (0 ≤ at') = true := decide_eq_true h0
    by_cases h1 : 0 ≤ n
    · have d1 : decide (0 ≤ n) = true := decide_eq_true h1
      by_cases h2 : at' ≤ size
      · have d2 : decide (at' ≤ size) = true := decide_eq_true h2
        have e : inB size at' n = decide (n ≤ size - at') := by unfold inB; exact decide_eq_decide.2 (by omega)
        rw [e]; clear e
        go_enter Tryd.func70, Tryd.ntmps70
        go_wp2
        go_ret
        exact ⟨rfl, rfl⟩
      · have d2 : decide (at' ≤ size) = false := decide_eq_false h2
        rw [inB_no (by omega)]
        go_enter Tryd.func70, Tryd.ntmps70
        go_wp2
        go_ret
        exact ⟨rfl, rfl⟩
    · have d1 : decide (0 ≤ n) = false := decide_eq_false h1
      rw [inB_no (by omega)]
      go_enter Tryd.func70, Tryd.ntmps70
      go_wp2
      go_ret
      exact ⟨rfl, rfl⟩
  · have d0 : decide (0 ≤ at') = false := decide_eq_false h0
    rw [inB_no (by omega)]
    go_enter Tryd.func70, Tryd.ntmps70
    go_wp2
    go_ret
    exact ⟨rfl, rfl⟩
/-- Where the byte of weight j lies. -/
def placeN (hi : Bool) (s j : Nat) : Nat := if hi then s - 1 - j else j
theorem refPlace_any (at' s j : Nat) (o : Int) (hi : Bool) (w : World) (ho : o = if hi then 1 else 0) (hj : j < s) (hs : s ≤ 8) (ha : at' ≤ 9223372036854775790) :
    Calls Tryd.prog 71 #[.int .i64 at', .int .i64 s, .int .i64 j, .int .i64 o] w fun e w' => e = .returned (.int .i64 ((at' + placeN hi s j : Nat) : Int)) ∧ w' = w := by
  cases hi
  · obtain rfl : o = 0 := ho
    go_enter Tryd.func71, Tryd.ntmps71
    go_wp2
    go_ret
    exact ⟨ret_int (by unfold placeN; simp), rfl⟩
  · obtain rfl : o = 1 := ho
    go_enter Tryd.func71, Tryd.ntmps71
    go_wp2
    go_ret
    exact ⟨ret_int (by unfold placeN; simp; omega), rfl⟩
def hornF (hi : Bool) (s : Nat) (f : Nat → Int) : Nat → Int
  | 0 => 0
  | m + 1 => 256 * hornF hi s f m + f (placeN hi s (s - 1 - m))
theorem horn_acc (hi : Bool) (s : Nat) (hs : s = 1 ∨ s = 2 ∨ s = 4 ∨ s = 8) (f : Nat → Int) : hornF hi s f s = accF hi s f s := by
  rcases hs with rfl | rfl | rfl | rfl
  all_goals cases hi
  all_goals simp [hornF, accF, placeN, shI]
  all_goals omega
theorem horn_bd (hi : Bool) (s : Nat) (hs : s = 1 ∨ s = 2 ∨ s = 4 ∨ s = 8) (f : Nat → Int) (hf : ∀ j, 0 ≤ f j ∧ f j ≤ 255) (k : Nat) (hk : k < s) :
    0 ≤ hornF hi s f k ∧ 256 * hornF hi s f k + 255 < 18446744073709551616 := by
  have := hf 0; have := hf 1; have := hf 2; have := hf 3; have := hf 4; have := hf 5; have := hf 6; have := hf 7
  rcases sz4 s hs k hk with ⟨rfl, rfl⟩ | ⟨rfl, rfl⟩ | ⟨rfl, rfl⟩ | ⟨rfl, rfl⟩ | ⟨rfl, rfl⟩ | ⟨rfl, rfl⟩ | ⟨rfl, rfl⟩ | ⟨rfl, rfl⟩ | ⟨rfl, rfl⟩ | ⟨rfl, rfl⟩ | ⟨rfl, rfl⟩ | ⟨rfl, rfl⟩ | ⟨rfl, rfl⟩ | ⟨rfl, rfl⟩ | ⟨rfl, rfl⟩
  all_goals cases hi
  all_goals simp [hornF, placeN]
  all_goals omega
theorem acc_pw (hi : Bool) (s : Nat) (hs : s = 1 ∨ s = 2 ∨ s = 4 ∨ s = 8) (f : Nat → Int) (hf : ∀ j, 0 ≤ f j ∧ f j ≤ 255) : accF hi s f s < pw s := by
  have := hf 0; have := hf 1; have := hf 2; have := hf 3; have := hf 4; have := hf 5; have := hf 6; have := hf 7
  rcases hs with rfl | rfl | rfl | rfl
  all_goals cases hi
  all_goals simp [accF, shI, pw]
  all_goals omega
set_option maxHeartbeats 1000000 in
theorem refGet_ok (g len cap at' : Nat) (p o : Int) (hi : Bool) (s : Nat) (f : Nat → Int) (w : World)
    (ho : o = if hi then 1 else 0) (hs : sz p = s) (h4 : s = 1 ∨ s = 2 ∨ s = 4 ∨ s = 8) (hf : ∀ j, 0 ≤ f j ∧ f j ≤ 255) (hc : ∀ j, j < s → w.cell? ⟨g, at' + j, none⟩ = some (.int .u8 (f j)))
    (hat : at' + s ≤ len) (hl : len ≤ 9223372036854775700) :
    Calls Tryd.prog 51 #[.slice (some ⟨g, 0, none⟩) len cap, .int .i64 at', .int .i64 p, .int .i64 o] w fun e w' => e = .returned (.tuple #[.int .u64 (wordF s (rd p) (accF hi s f s)), .int .i64 0]) ∧ w' = w := by
  have HO : Hid (o = if hi then 1 else 0) := ho
  have ho1 : decide (o = 0 ∨ o = 1) = true := decide_eq_true (by rw [ho]; cases hi <;> simp)
  have hin : inB len at' s = true := inB_yes (by omega)
  have sn0 : ((s : Int) == 0) = false := by simp; omega
  have ac := acc_bd hi s h4 f hf s (Nat.le_refl _)
  have ap := acc_pw hi s h4 f hf
  have HH : Hid (hornF hi s f s = accF hi s f s) := horn_acc hi s h4 f
  clear ho
  go_enter Tryd.func51, Tryd.ntmps51
  go_wp2_with (first
    | (go_at_call 49; refine (refSize_any _ _).mono ?_; rintro e w1 ⟨rfl, rfl⟩)
    | (go_at_call 69; refine (refOrder_any _ _).mono ?_; rintro e w1 ⟨rfl, rfl⟩)
    | (go_at_call 70; refine (refLies_any _ _ _ _ (by omega) (by omega)).mono ?_; rintro e w1 ⟨rfl, rfl⟩))
  go_loop [11, 12] (fun b i => ∃ m : Nat, m ≤ s ∧ i = .int .i64 ((s : Int) - 1 - m) ∧ b = .int .u64 (hornF hi s f m)) (fun _ i => (1 + intOf i).toNat)
  case atStart => exact ⟨0, by omega, by go_num, rfl⟩
  case round =>
    obtain ⟨m, hm, rfl, rfl⟩ := hrel
    by_cases hlt : m < s
    · have hb := horn_bd hi s h4 f hf m hlt
      have ej : (s : Int) - 1 - (m : Int) = ((s - 1 - m : Nat) : Int) := by omega
      have pl : placeN hi s (s - 1 - m) < s := by unfold placeN; split <;> omega
      have cb := hc _ pl
      have fb := hf (placeN hi s (s - 1 - m))
      have lt : (at' : Int) + (placeN hi s (s - 1 - m) : Int) < (len : Int) := by omega
      go_wp2_with (go_at_call 71; rw [ej]; refine (refPlace_any _ _ _ _ hi _ HO.out (by omega) (by omega) (by omega)).mono ?_; rintro e w1 ⟨rfl, rfl⟩)
      go_round
      case rel => exact ⟨m + 1, by omega, by go_num, rfl⟩
      case measure => simp [intOf]; omega
    · obtain rfl : m = s := by omega
      rw [HH.out]
      have nk : ¬ (0 : Int) ≤ (m : Int) - 1 - (m : Int) := by omega
      have hH : highF m = pw m / 2 := by unfold highF; rw [if_neg (by omega)]
      have e64 : bitsF 64 = 18446744073709551615 := rfl
      have e8 : bitsF (8 * (m : Int)) = pw m - 1 := by rcases h4 with rfl | rfl | rfl | rfl <;> rfl
      have pb : 256 ≤ pw m ∧ pw m ≤ 18446744073709551616 := by rcases h4 with rfl | rfl | rfl | rfl <;> decide
      have hm1 : accF hi m f m % pw m = accF hi m f m := Int.emod_eq_of_lt ac.1 ap
      have HM : Hid (accF hi m f m % pw m = accF hi m f m) := hm1
      have pe : pw m % 2 = 0 := by rcases h4 with rfl | rfl | rfl | rfl <;> decide
      clear hm1 hc hf HH
      by_cases hr : rd p = 1
      · have hr' : (rd p == 1) = true := by simpa using hr
        by_cases hg : pw m / 2 ≤ accF hi m f m
        · have ew : wordF m (rd p) (accF hi m f m) = accF hi m f m + 18446744073709551616 - pw m := by
            unfold wordF; rw [HM.out, if_pos ⟨hr, by omega⟩]
          have EW : Hid (wordF m (rd p) (accF hi m f m) = accF hi m f m + 18446744073709551616 - pw m) := ew
          have HG : Hid (pw m / 2 ≤ accF hi m f m) := hg
          have hgd : decide (pw m / 2 ≤ accF hi m f m) = true := decide_eq_true hg
          clear hr ew
          go_wp2_with (first
            | (go_at_call 72; refine (refSigned_any _ _).mono ?_; rintro e w1 ⟨rfl, rfl⟩)
            | (go_at_call 73; refine (refHigh_any _ _).mono ?_; rintro e w1 ⟨rfl, rfl⟩)
            | (go_at_call 74; refine (refBits_any _ _ (by omega)).mono ?_; rintro e w1 ⟨rfl, rfl⟩))
          go_ret2
          exact ⟨ret_tup (by rw [EW.out]; simp only [IntKind.wrap_u64]; omega), rfl⟩
        · have ew : wordF m (rd p) (accF hi m f m) = accF hi m f m := by
            unfold wordF; rw [HM.out, if_neg (by omega)]
          have EW : Hid (wordF m (rd p) (accF hi m f m) = accF hi m f m) := ew
          have hgd : decide (pw m / 2 ≤ accF hi m f m) = false := decide_eq_false hg
          clear hr ew
          go_wp2_with (first
            | (go_at_call 72; refine (refSigned_any _ _).mono ?_; rintro e w1 ⟨rfl, rfl⟩)
            | (go_at_call 73; refine (refHigh_any _ _).mono ?_; rintro e w1 ⟨rfl, rfl⟩))
          go_ret2
          exact ⟨ret_tup EW.out.symm, rfl⟩
      · have hr' : (rd p == 1) = false := by simpa using hr
        have ew : wordF m (rd p) (accF hi m f m) = accF hi m f m := by
          unfold wordF; rw [HM.out, if_neg (by omega)]
        have EW : Hid (wordF m (rd p) (accF hi m f m) = accF hi m f m) := ew
        clear ew
        go_wp2_with (go_at_call 72; refine (refSigned_any _ _).mono ?_; rintro e w1 ⟨rfl, rfl⟩)
        go_ret2
        exact ⟨ret_tup EW.out.symm, rfl⟩
theorem refGet_prim (a : Option Addr) (len cap : Nat) (at' p o : Int) (w : World) (hp : sz p = 0 ∨ (sz p ≠ 0 ∧ (o < 0 ∨ 2 ≤ o))) :
    Calls Tryd.prog 51 #[.slice a len cap, .int .i64 at', .int .i64 p, .int .i64 o] w fun e w' => e = .returned (.tuple #[.int .u64 0, .int .i64 10]) ∧ w' = w := by
  rcases hp with hp | ⟨hp, ho⟩
  · go_enter Tryd.func51, Tryd.ntmps51
    go_wp2_with (first
      | (go_at_call 49; refine (refSize_any _ _).mono ?_; rintro e w1 ⟨rfl, rfl⟩)
      | (go_at_call 69; refine (refOrder_any _ _).mono ?_; rintro e w1 ⟨rfl, rfl⟩))
    go_ret2
    exact ⟨rfl, rfl⟩
  · have hp' : (sz p == 0) = false := by simpa using hp
    have ho1 : decide (o = 0 ∨ o = 1) = false := decide_eq_false (by omega)
    go_enter Tryd.func51, Tryd.ntmps51
    go_wp2_with (first
      | (go_at_call 49; refine (refSize_any _ _).mono ?_; rintro e w1 ⟨rfl, rfl⟩)
      | (go_at_call 69; refine (refOrder_any _ _).mono ?_; rintro e w1 ⟨rfl, rfl⟩))
    go_ret2
    exact ⟨rfl, rfl⟩
theorem refGet_short (a : Option Addr) (len cap : Nat) (at' p o : Int) (w : World) (ho : o = 0 ∨ o = 1) (hp : sz p ≠ 0) (hl : len ≤ 9223372036854775807) (hs : inB len at' (sz p) = false) :
    Calls Tryd.prog 51 #[.slice a len cap, .int .i64 at', .int .i64 p, .int .i64 o] w fun e w' => e = .returned (.tuple #[.int .u64 0, .int .i64 11]) ∧ w' = w := by
  have hp' : (sz p == 0) = false := by simpa using hp
  have ho1 : decide (o = 0 ∨ o = 1) = true := decide_eq_true ho
  clear ho
  go_enter Tryd.func51, Tryd.ntmps51
  go_wp2_with (first
    | (go_at_call 49; refine (refSize_any _ _).mono ?_; rintro e w1 ⟨rfl, rfl⟩)
    | (go_at_call 69; refine (refOrder_any _ _).mono ?_; rintro e w1 ⟨rfl, rfl⟩)
    | (go_at_call 70; refine (refLies_any _ _ _ _ (by omega) (by omega)).mono ?_; rintro e w1 ⟨rfl, rfl⟩))
  go_ret2
  exact ⟨rfl, rfl⟩
end Go.Proofs.YtgklippjoikadaaDoor
namespace Go.Proofs.YtgklippjoikadaaDoor
open Go.ChangeShapes Go.WideShapes Go.ChangeAt Go.RowKit

def dvF (x : Int) (m : Nat) : Int := x / 2 ^ (8 * m)
theorem dvF_zero (x : Int) : dvF x 0 = x := by simp [dvF]
theorem dvF_succ (x : Int) (m : Nat) : dvF x (m + 1) = dvF x m / 256 := by
  unfold dvF
  rw [show 8 * (m + 1) = 8 * m + 8 by omega, Int.pow_add, ← Int.ediv_ediv_of_nonneg]
  · rfl
  · exact Int.le_of_lt (Int.pow_pos (by decide))
theorem dvF_bd (x : Int) (m : Nat) (h0 : 0 ≤ x) (h1 : x < 18446744073709551616) : 0 ≤ dvF x m ∧ dvF x m < 18446744073709551616 := by
  induction m with
  | zero => rw [dvF_zero]; exact ⟨h0, h1⟩
  | succ m ih => rw [dvF_succ]; omega
theorem place_place (hi : Bool) (s m : Nat) (h : m < s) : placeN hi s (placeN hi s m) = m := by unfold placeN; split <;> omega
theorem place_lt (hi : Bool) (s m : Nat) (h : m < s) : placeN hi s m < s := by unfold placeN; split <;> omega
theorem byte_dv (hi : Bool) (s m : Nat) (x : Int) (h : m < s) : byteF hi s x (placeN hi s m) = dvF x m % 256 := by
  unfold byteF dvF
  have : (shI hi s (placeN hi s m : Nat)).toNat = 8 * m := by unfold shI placeN; cases hi <;> simp <;> omega
  rw [this]
set_option maxHeartbeats 1000000 in
theorem refPut_ok (g len cap at' : Nat) (p o x : Int) (hi : Bool) (s : Nat) (f : Nat → Value) (w : World) (R : w.rowIs g 5 cap f)
    (ho : o = if hi then 1 else 0) (hs : sz p = s) (h4 : s = 1 ∨ s = 2 ∨ s = 4 ∨ s = 8) (hx0 : 0 ≤ x) (hx1 : x < 18446744073709551616) (hft : fitsF (sz p) (rd p) x = true)
    (hat : at' + s ≤ len) (hlc : len ≤ cap) (hl : len ≤ 9223372036854775700) :
    Calls Tryd.prog 53 #[.slice (some ⟨g, 0, none⟩) len cap, .int .i64 at', .int .i64 p, .int .i64 o, .int .u64 x] w fun e w' => e = .returned (.int .i64 0) ∧ Below g w w' ∧
      w'.rowIs g 5 cap (fun j => if at' ≤ j ∧ j < at' + s then .int .u8 (byteF hi s x (j - at')) else f j) := by
  have HO : Hid (o = if hi then 1 else 0) := ho
  have ho1 : decide (o = 0 ∨ o = 1) = true := decide_eq_true (by rw [ho]; cases hi <;> simp)
  have hin : inB len at' s = true := inB_yes (by omega)
  have sn0 : ((s : Int) == 0) = false := by simp; omega
  have hft2 : fitsF s (rd p) x = true := by rw [← hs]; exact hft
  clear ho hft
  go_enter Tryd.func53, Tryd.ntmps53
  go_wp2_with (first
    | (go_at_call 49; refine (refSize_any _ _).mono ?_; rintro e w1 ⟨rfl, rfl⟩)
    | (go_at_call 52; refine (refFits_any _ _ _ hx0 hx1).mono ?_; rintro e w1 ⟨rfl, rfl⟩)
    | (go_at_call 69; refine (refOrder_any _ _).mono ?_; rintro e w1 ⟨rfl, rfl⟩)
    | (go_at_call 70; refine (refLies_any _ _ _ _ (by omega) (by omega)).mono ?_; rintro e w1 ⟨rfl, rfl⟩))
  rename World => w0
  go_loopw [4, 12] (fun b i wr => ∃ m : Nat, m ≤ s ∧ i = .int .i64 m ∧ b = .int .u64 (dvF x m) ∧ Below g w0 wr ∧ wr.rowIs g 5 cap (fun j => if at' ≤ j ∧ j < at' + s ∧ placeN hi s (j - at') < m then .int .u8 (byteF hi s x (j - at')) else f j)) (fun _ i _ => s - (intOf i).toNat)
  case atStart => exact ⟨0, by omega, rfl, by rw [dvF_zero], Below.refl _ _, R.congr fun j _ => by rw [if_neg (by omega)]⟩
  case round =>
    obtain ⟨m, hm, rfl, rfl, HB, HR⟩ := hrel
    have db := dvF_bd x m hx0 hx1
    have DS : Hid (dvF x (m + 1) = dvF x m / 256) := dvF_succ x m
    by_cases hlt : m < s
    · have pl := place_lt hi s m hlt
      have cb := HR.cell (i := at' + placeN hi s m) (by omega)
      have fb := HR.frozen (at' + placeN hi s m)
      have lt : (at' : Int) + (placeN hi s m : Int) < (len : Int) := by omega
      have BD : Hid (byteF hi s x (placeN hi s m) = dvF x m % 256) := byte_dv hi s m x hlt
      go_wp2_with (go_at_call 71; refine (refPlace_any _ _ _ _ hi _ HO.out (by omega) (by omega) (by omega)).mono ?_; rintro e w1 ⟨rfl, rfl⟩)
      go_roundw
      case rel =>
        refine ⟨m + 1, by omega, by go_num, by rw [DS.out], HB.setCell (Nat.le_refl _) _, (HR.set _ _).congr fun j _ => ?_⟩
        by_cases e : j = at' + placeN hi s m
        · subst e
          rw [if_pos rfl, show at' + placeN hi s m - at' = placeN hi s m by omega, if_pos ⟨by omega, by omega, by rw [place_place hi s m hlt]; omega⟩, BD.out]
        · rw [if_neg e]
          by_cases c : at' ≤ j ∧ j < at' + s ∧ placeN hi s (j - at') < m
          · rw [if_pos c, if_pos (by omega)]
          · rw [if_neg c, if_neg]
            intro c2
            have : placeN hi s (j - at') = m := by omega
            have h2 := place_place hi s (j - at') (by omega)
            rw [this] at h2
            omega
      case measure => simp [intOf]; omega
    · obtain rfl : m = s := by omega
      go_wp2
      go_ret
      refine ⟨rfl, HB, HR.congr fun j _ => ?_⟩
      by_cases c : at' ≤ j ∧ j < at' + m
      · rw [if_pos c, if_pos ⟨c.1, c.2, place_lt hi m _ (by omega)⟩]
      · rw [if_neg c, if_neg (by omega)]
theorem refPut_prim (a : Option Addr) (len cap : Nat) (at' p o x : Int) (w : World) (hp : sz p = 0 ∨ (sz p ≠ 0 ∧ (o < 0 ∨ 2 ≤ o))) :
    Calls Tryd.prog 53 #[.slice a len cap, .int .i64 at', .int .i64 p, .int .i64 o, .int .u64 x] w fun e w' => e = .returned (.int .i64 10) ∧ w' = w := by
  rcases hp with hp | ⟨hp, ho⟩
  · go_enter Tryd.func53, Tryd.ntmps53
    go_wp2_with (first
      | (go_at_call 49; refine (refSize_any _ _).mono ?_; rintro e w1 ⟨rfl, rfl⟩)
      | (go_at_call 69; refine (refOrder_any _ _).mono ?_; rintro e w1 ⟨rfl, rfl⟩))
    go_ret
    exact ⟨rfl, rfl⟩
  · have hp' : (sz p == 0) = false := by simpa using hp
    have ho1 : decide (o = 0 ∨ o = 1) = false := decide_eq_false (by omega)
    go_enter Tryd.func53, Tryd.ntmps53
    go_wp2_with (first
      | (go_at_call 49; refine (refSize_any _ _).mono ?_; rintro e w1 ⟨rfl, rfl⟩)
      | (go_at_call 69; refine (refOrder_any _ _).mono ?_; rintro e w1 ⟨rfl, rfl⟩))
    go_ret
    exact ⟨rfl, rfl⟩
theorem refPut_range (a : Option Addr) (len cap : Nat) (at' p o x : Int) (w : World) (ho : o = 0 ∨ o = 1) (hp : sz p ≠ 0) (hx0 : 0 ≤ x) (hx1 : x < 18446744073709551616) (hft : fitsF (sz p) (rd p) x = false) :
    Calls Tryd.prog 53 #[.slice a len cap, .int .i64 at', .int .i64 p, .int .i64 o, .int .u64 x] w fun e w' => e = .returned (.int .i64 12) ∧ w' = w := by
  have hp' : (sz p == 0) = false := by simpa using hp
  have ho1 : decide (o = 0 ∨ o = 1) = true := decide_eq_true ho
  clear ho
  go_enter Tryd.func53, Tryd.ntmps53
  go_wp2_with (first
    | (go_at_call 49; refine (refSize_any _ _).mono ?_; rintro e w1 ⟨rfl, rfl⟩)
    | (go_at_call 52; refine (refFits_any _ _ _ hx0 hx1).mono ?_; rintro e w1 ⟨rfl, rfl⟩)
    | (go_at_call 69; refine (refOrder_any _ _).mono ?_; rintro e w1 ⟨rfl, rfl⟩))
  go_ret
  exact ⟨rfl, rfl⟩
theorem refPut_short (a : Option Addr) (len cap : Nat) (at' p o x : Int) (w : World) (ho : o = 0 ∨ o = 1) (hp : sz p ≠ 0) (hx0 : 0 ≤ x) (hx1 : x < 18446744073709551616) (hft : fitsF (sz p) (rd p) x = true) (hl : len ≤ 9223372036854775807) (hs : inB len at' (sz p) = false) :
    Calls Tryd.prog 53 #[.slice a len cap, .int .i64 at', .int .i64 p, .int .i64 o, .int .u64 x] w fun e w' => e = .returned (.int .i64 11) ∧ w' = w := by
  have hp' : (sz p == 0) = false := by simpa using hp
  have ho1 : decide (o = 0 ∨ o = 1) = true := decide_eq_true ho
  clear ho
  go_enter Tryd.func53, Tryd.ntmps53
  go_wp2_with (first
    | (go_at_call 49; refine (refSize_any _ _).mono ?_; rintro e w1 ⟨rfl, rfl⟩)
    | (go_at_call 52; refine (refFits_any _ _ _ hx0 hx1).mono ?_; rintro e w1 ⟨rfl, rfl⟩)
    | (go_at_call 69; refine (refOrder_any _ _).mono ?_; rintro e w1 ⟨rfl, rfl⟩)
    | (go_at_call 70; refine (refLies_any _ _ _ _ (by omega) (by omega)).mono ?_; rintro e w1 ⟨rfl, rfl⟩))
  go_ret
  exact ⟨rfl, rfl⟩
end Go.Proofs.YtgklippjoikadaaDoor
namespace Go.Proofs.YtgklippjoikadaaDoor
open Go.ChangeShapes Go.WideShapes Go.ChangeAt Go.RowKit

/-- The text of n bytes from a place on. -/
def textF (fi : Nat → Int) (at' n : Nat) : ByteArray := strOfNums ((List.range n).map fun i => fi (at' + i))
theorem text_conv (w : World) (g cap : Nat) (fi : Nat → Int) (R : w.rowIs g 5 cap (fun j => .int .u8 (fi j))) (at' n c : Nat) (h : at' + n ≤ cap) :
    (convert 22 9 (.slice (some ⟨g, at', none⟩) n c)).run Tryd.prog w = .ok (.string (textF fi at' n)) w :=
  run_convert_bytes_arg w 22 5 Tryd.underlying22 Tryd.underlying5 g at' n c _ (by simp) (fun i hi => by
    rw [R.cell (i := at' + i) (by omega)]; simp [hi]) 9 Tryd.underlying9
theorem text_none (w : World) (g : Nat) (fi : Nat → Int) (at' a c : Nat) : (convert 22 9 (.slice (some ⟨g, a, none⟩) 0 c)).run Tryd.prog w = .ok (.string (textF fi at' 0)) w :=
  run_convert_bytes_arg w 22 5 Tryd.underlying22 Tryd.underlying5 g a 0 c [] rfl (fun i hi => by omega) 9 Tryd.underlying9
set_option maxHeartbeats 1000000 in
theorem GetChars_ok (g len cap at' n : Nat) (fi : Nat → Int) (w : World) (R : w.rowIs g 5 cap (fun j => .int .u8 (fi j))) (hat : at' + n ≤ len) (hlc : len ≤ cap) (hl : len ≤ 9223372036854775700) :
    Calls Tryd.prog 54 #[.slice (some ⟨g, 0, none⟩) len cap, .int .i64 at', .int .i64 n] w fun e w' => e = .returned (.tuple #[.string (textF fi at' n), .int .i64 0]) ∧ w' = w := by
  have hin : inB len at' n = true := inB_yes (by omega)
  by_cases hce : at' = cap
  · obtain rfl : n = 0 := by omega
    obtain rfl : len = cap := by omega
    have hcv := fun a c => text_none w g fi at' a c
    subst hce
    have hin2 : inB at' at' 0 = true := inB_yes (by omega)
    go_enter Tryd.func54, Tryd.ntmps54
    go_wp2_with (go_at_call 67; refine (within_in _ _ _ _ _ _ (by omega) (by omega)).mono ?_; rintro e w1 ⟨rfl, rfl⟩)
    go_ret2
    exact ⟨rfl, rfl⟩
  · have hcv := fun c => text_conv w g cap fi R at' n c (by omega)
    have l1 : (at' : Int) + (n : Int) ≤ (cap : Int) := by omega
    go_enter Tryd.func54, Tryd.ntmps54
    go_wp2_with (go_at_call 67; refine (within_in _ _ _ _ _ _ (by omega) (by omega)).mono ?_; rintro e w1 ⟨rfl, rfl⟩)
    go_ret2
    exact ⟨rfl, rfl⟩
theorem GetChars_no (a : Option Addr) (len cap : Nat) (at' n : Int) (w : World) (_hn : n ≤ 9223372036854775807) (hl : len ≤ 9223372036854775700) (hin : inB len at' n = false) :
    Calls Tryd.prog 54 #[.slice a len cap, .int .i64 at', .int .i64 n] w fun e w' => e = .returned (.tuple #[.string ByteArray.empty, .int .i64 11]) ∧ w' = w := by
  go_enter Tryd.func54, Tryd.ntmps54
  go_wp2_with (go_at_call 67; refine (within_in _ _ _ _ _ _ (by omega) (by omega)).mono ?_; rintro e w1 ⟨rfl, rfl⟩)
  go_ret2
  exact ⟨rfl, rfl⟩
end Go.Proofs.YtgklippjoikadaaDoor

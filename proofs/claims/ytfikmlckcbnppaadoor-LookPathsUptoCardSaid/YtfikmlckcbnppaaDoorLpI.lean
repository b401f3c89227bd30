/- The document's decimal. -/
import Derived.Test.YtfikmlckcbnppaaDoorLpH
namespace Go.Proofs.YtfikmlckcbnppaaDoor
open Go.ChangeShapes Go.WideShapes Go.ChangeAt Go.RowKit Go.Shelf Go.Maps

/-- A number's text. -/
def decB (n : Nat) : ByteArray := ⟨(Lib.decDigits n).toArray⟩
theorem dec_small {m : Nat} (h : m / 10 = 0) : Lib.decDigits m = [UInt8.ofNat (48 + m % 10)] := by
  rw [Lib.decDigits, dif_pos (by omega), show m % 10 = m by omega]
theorem dec_big {m : Nat} (h : m / 10 ≠ 0) : Lib.decDigits m = Lib.decDigits (m / 10) ++ [UInt8.ofNat (48 + m % 10)] := by
  rw [Lib.decDigits, dif_neg (by omega)]
/-- What is still to be said, behind what has been. -/
def DcS (n m : Nat) (t : ByteArray) : Prop := Lib.decDigits n = Lib.decDigits m ++ t.data.toList
theorem DcS.last {n m : Nat} {t : ByteArray} (h : DcS n m t) (hm : m / 10 = 0) : oneB (48 + m % 10) ++ t = decB n := by
  refine ba_ext ?_
  rw [ByteArray.data_append, Array.toList_append]
  show [UInt8.ofNat (48 + m % 10)] ++ _ = _
  unfold decB
  rw [h, dec_small hm]
theorem DcS.next {n m : Nat} {t : ByteArray} (h : DcS n m t) (hm : m / 10 ≠ 0) : DcS n (m / 10) (oneB (48 + m % 10) ++ t) := by
  unfold DcS
  rw [h, dec_big hm, ByteArray.data_append, Array.toList_append, List.append_assoc]
  rfl
set_option maxRecDepth 20000 in
theorem decimal21 (n : Nat) (hn : n ≤ 65535) (w : World) : Calls Tryd.prog 15 #[.int .i64 (n : Int)] w fun e w' => e = .returned (.string (decB n)) ∧ Below w.heap.size w w' := by
  have H0 : Hid (DcS n n ⟨#[]⟩ ∧ Below w.heap.size w w) := ⟨by unfold DcS; simp, Below.refl _ _⟩
  go_enter Tryd.func15, Tryd.ntmps15
  go_wp2_with fail
  go_loopw [0, 3] (fun q v wr => ∃ (m : Nat) (t : ByteArray), m + t.size ≤ 65535 ∧ q = .int .i64 (m : Int) ∧ v = .string t ∧ Hid (DcS n m t ∧ Below w.heap.size w wr)) (fun q _ _ => (RowKit.intOf q).toNat)
  case atStart => exact ⟨n, ⟨#[]⟩, hn, rfl, rfl, H0⟩
  case round =>
    clear H0
    obtain ⟨m, t, hm, rfl, rfl, hI⟩ := hrel
    have hts : t.size ≤ 65535 := by omega
    have hsz : (oneB (48 + m % 10) ++ t).size = 1 + t.size := by rw [ByteArray.size_append, oneB_size]
    have hmod : (m : Int).tmod 10 = ((m % 10 : Nat) : Int) := by rw [Int.tmod_eq_emod_of_nonneg (by omega)]; omega
    have hdiv : (m : Int).tdiv 10 = ((m / 10 : Nat) : Int) := by rw [Int.tdiv_eq_ediv_of_nonneg (by omega)]; omega
    have hmI : (m : Int) ≤ 65535 := by omega
    obtain ⟨r, hr⟩ : ∃ r, m % 10 = r := ⟨_, rfl⟩
    obtain ⟨k, hk⟩ : ∃ k, m / 10 = k := ⟨_, rfl⟩
    have hr9 : r < 10 := by omega
    have hw8 : IntKind.u8.wrap (48 + (r : Int)) = ((48 + r : Nat) : Int) := by rw [IntKind.wrap_u8]; omega
    have hkI : (k : Int) ≤ 65535 := by omega
    rw [hr] at hmod hsz
    rw [hk] at hdiv
    have hovf : ¬ 9223372036854775807 < (oneB (48 + r)).size + t.size := by rw [oneB_size]; omega
    have hcv := nconv wr wr.heap.size (48 + r) rfl
    have hb := hI.out.2.trans ((bel1 wr (.cells #[.int .u8 ((48 + r : Nat) : Int)] 5)).mono hI.out.2.size)
    rw [show ((48 + r : Nat) : Int) = 48 + (r : Int) by omega] at hcv hb
    replace hb : Hid _ := ⟨hb⟩
    by_cases hk0 : k = 0
    · have e0 : ((k : Int) == 0) = true := by rw [hk0]; rfl
      have e0n : (k == 0) = true := by rw [hk0]; rfl
      have hF : Hid (oneB (48 + r) ++ t = decB n) := ⟨by rw [← hr]; exact hI.out.1.last (by omega)⟩
      clear hk0 hk hr hI
      go_wp2_with fail
      go_ret
      exact ⟨by rw [hF.out]; rfl, hb.out⟩
    · have e0 : ((k : Int) == 0) = false := beqN (by omega)
      have e0n : (k == 0) = false := beq_eq_false_iff_ne.2 hk0
      have hF : Hid (DcS n k (oneB (48 + r) ++ t)) := ⟨by rw [← hr, ← hk]; exact hI.out.1.next (by omega)⟩
      have hlt : k < m := by omega
      clear hk hr hI
      go_wp2_with fail
      go_roundw
      case rel => exact ⟨k, oneB (48 + r) ++ t, by rw [hsz]; omega, rfl, rfl, ⟨hF.out, hb.out⟩⟩
      case measure => simp [RowKit.intOf]; omega
end Go.Proofs.YtfikmlckcbnppaaDoor

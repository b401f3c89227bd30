/- The tree's printer: shutTo, put. -/
import Derived.Test.YtchfphakhmifmaaGreatDoorTPr
import Derived.Test.YtchfphakhmifmaaGreatDoorPA
import Derived.BigQuiet
namespace Go.Proofs.YtchfphakhmifmaaGreatDoor
open Go.ChangeShapes Go.WideShapes Go.ChangeAt Go.RowKit Go.Lib

theorem shutL_le (st : List ByteArray) (d : Nat) (h : st.length ≤ d) : shutL st d = [] := by unfold shutL; rw [show st.length - d = 0 by omega]; rfl
theorem cutS_le (st : List ByteArray) (d : Nat) (h : st.length ≤ d) : cutS st d = st := by unfold cutS; rw [show st.length - d = 0 by omega]; rfl
def slLen : Option Value → Nat
  | some (.slice _ n _) => n
  | _ => 0
set_option maxRecDepth 100000 in
set_option maxHeartbeats 4000000 in
theorem shutTo_any (R bot d : Nat) (vO vN : Value) (ts : List IT) (st : List ByteArray) (w : World) (h : PP w R bot vO vN ts st.reverse) (hn : ts.length + st.length ≤ 1000000000) :
    Calls Tryz.prog 51 #[.pointer (some ⟨R, 0, none⟩), .int .i64 (d : Int)] w fun e w' => e = .returned (.tuple #[]) ∧ ∃ vO' vN', Pk R vO vN vO' vN' w w' ∧ PP w' R bot vO' vN' (ts ++ shutL st d) (cutS st d).reverse := by
  go_enter Tryz.func51, Tryz.ntmps51
  go_wp2_with fail
  go_loopw [4] (fun l4 wr => l4 = l4 ∧ ∃ (v1 n1 : Value) (t1 : List IT) (s1 : List ByteArray), Pk R vO vN v1 n1 w wr ∧ PP wr R bot v1 n1 t1 s1.reverse ∧ t1.length + s1.length ≤ 1000000000 ∧ Hid (t1 ++ shutL s1 d = ts ++ shutL st d ∧ cutS s1 d = cutS st d)) (fun _ wr => slLen (wr.cell? ⟨R, 1, none⟩))
  case atStart => exact ⟨rfl, vO, vN, ts, st, Pk.refl _ _ _ _, h, hn, Hid.mkP ⟨rfl, rfl⟩⟩
  case round =>
    obtain ⟨-, v1, n1, t1, s1, hk, hp, hl, hq⟩ := hrel
    by_cases hlt : d < s1.length
    · obtain ⟨nm, s2, rfl⟩ : ∃ nm s2, s1 = nm :: s2 := by
        cases s1 with
        | nil => exact absurd hlt (by simp)
        | cons a b => exact ⟨a, b, rfl⟩
      rw [List.length_cons] at hlt hl
      rw [List.reverse_cons] at hp
      have ho := hp.own1
      rw [List.length_append, List.length_reverse] at ho
      obtain ⟨g, cap, hn1⟩ := own_shape ho (by simp)
      have hn2 : n1 = .slice (some ⟨g, 0, none⟩) (s2.length + 1) cap := hn1
      subst hn2
      have ho2 : wr.ownsRow bot 9 1 (.slice (some ⟨g, 0, none⟩) (s2.length + 1) cap) (s2.length + 1) ((s2.reverse ++ [nm]).map .string) := ho
      have hcp : s2.length + 1 ≤ cap := own_cap ho2 (by omega)
      have x1 := (own_get ho2 (o := s2.length) (u := .string nm) (by simp)).1
      have c := ptell_any R bot v1 (.slice (some ⟨g, 0, none⟩) (s2.length + 1) cap) t1 (s2.reverse ++ [nm]) ⟨4, nm, ⟨#[]⟩, 0⟩ wr hp (by omega)
      have e1 := hp.c1
      have z0 : decide ((d : Int) < (s2.length : Int) + 1) = true := by simp; omega
      have z1 : (d : Int) < (s2.length : Int) + 1 := by omega
      have hw : IntKind.i64.wrap ((s2.length : Int) + 1 - 1) = s2.length := by rw [IntKind.wrap_i64]; omega
      have hw2 : (s2.length : Int) < (s2.length : Int) + 1 := by omega
      have HM : Hid (slLen (wr.cell? ⟨R, 1, none⟩) = s2.length + 1) := Hid.mkP (by rw [e1]; rfl)
      have hz : Hid (∀ (v2 : Value) (wX : World), Pk R v1 (.slice (some ⟨g, 0, none⟩) (s2.length + 1) cap) v2 (.slice (some ⟨g, 0, none⟩) (s2.length + 1) cap) wr wX → PP wX R bot v2 (.slice (some ⟨g, 0, none⟩) (s2.length + 1) cap) (t1 ++ [⟨4, nm, ⟨#[]⟩, 0⟩]) (s2.reverse ++ [nm]) →
          ∃ v3 n3 t3 s3, Pk R vO vN v3 n3 w (wX.setCell ⟨R, 1, none⟩ (.slice (some ⟨g, 0, none⟩) s2.length cap)) ∧ PP (wX.setCell ⟨R, 1, none⟩ (.slice (some ⟨g, 0, none⟩) s2.length cap)) R bot v3 n3 t3 (List.reverse s3) ∧ t3.length + s3.length ≤ 1000000000 ∧ Hid (t3 ++ shutL s3 d = ts ++ shutL st d ∧ cutS s3 d = cutS st d)) := Hid.mkP fun v2 wX hkX hpX => by
        obtain ⟨k1, p1⟩ := hpX.cut1 (by simp)
        refine ⟨_, _, _, s2, (hk.trans hkX).trans k1, p1, by rw [List.length_append]; simp; omega, Hid.mkP ?_⟩
        obtain ⟨a, b⟩ := hq.out
        rw [shutL_cons nm s2 d (by omega)] at a
        rw [cutS_cons nm s2 d (by omega)] at b
        exact ⟨by rw [← a, List.append_assoc]; rfl, b⟩
      clear hq hk ho ho2 hn hp hn1 h
      go_wp2_with (go_at_call 76; refine c.mono ?_; rintro _ w1 ⟨rfl, v2, k2, p2⟩; have e2 := p2.c1; have f2 := p2.fz 1)
      have hy := hz.out v2 w1 k2 p2
      go_roundw
      case rel => exact ⟨trivial, hy⟩
      case measure => rw [HM.out, World.cell?_setCell_same w1 ⟨R, 1, none⟩ _ e2]; exact Nat.lt_succ_self _
    · have a0 := hq.out.1
      have b0 := hq.out.2
      rw [shutL_le s1 d (by omega), List.append_nil] at a0
      rw [cutS_le s1 d (by omega)] at b0
      subst a0
      have e1 := hp.c1
      obtain ⟨p9, c9, hv⟩ := own_sl hp.own1
      rw [List.length_reverse] at hv
      subst hv
      have z0 : decide ((d : Int) < (s1.length : Int)) = false := by simp; omega
      have z1 : ¬ (d : Int) < (s1.length : Int) := by omega
      have HX : Hid (∃ vO' vN', Pk R vO vN vO' vN' w wr ∧ PP wr R bot vO' vN' (ts ++ shutL st d) (cutS st d).reverse) := Hid.mkP ⟨_, _, hk, by rw [← b0]; exact hp⟩
      clear hq hk hp b0 h
      go_wp2_with fail
      go_end0
      exact ⟨rfl, HX.out⟩
end Go.Proofs.YtchfphakhmifmaaGreatDoor

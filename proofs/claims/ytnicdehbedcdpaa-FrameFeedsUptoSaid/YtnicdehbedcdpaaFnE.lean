/- A Feed, whatever the stream's state. -/
import Derived.Test.YtnicdehbedcdpaaFnC
namespace Go.Proofs.Ytnicdehbedcdpaa
open Go.ChangeShapes Go.WideShapes Go.ChangeAt Go.RowKit

/-- What a Feed answers, and leaves. -/
def stZ (lim : Int) (L : List Nat) (er : Int) (M : List Nat) : List Pcl × Int × List Nat := if er = 0 then ((cutZ lim (L ++ M)).1, (cutZ lim (L ++ M)).2.2, fdL lim (L ++ M)) else ([], er, [])
theorem stZ_e (lim : Int) (L : List Nat) (er : Int) (M : List Nat) : (stZ lim L er M).2.1 ≠ 0 → (stZ lim L er M).2.2 = [] := by
  unfold stZ
  split
  · intro h
    show fdL lim (L ++ M) = []
    unfold fdL
    rw [if_neg h]
  · intro _; rfl
theorem stZ_len (lim : Int) (L : List Nat) (er : Int) (M : List Nat) : (stZ lim L er M).2.2.length ≤ L.length + M.length ∧ (stZ lim L er M).1.length ≤ L.length + M.length := by
  unfold stZ
  split
  · have h := cutZ_le lim (L ++ M)
    rw [List.length_append] at h
    refine ⟨?_, by show (cutZ lim (L ++ M)).1.length ≤ _; omega⟩
    show (fdL lim (L ++ M)).length ≤ _
    unfold fdL
    split
    · rw [List.length_drop, List.length_append]; omega
    · exact Nat.zero_le _
  · exact ⟨Nat.zero_le _, Nat.zero_le _⟩
theorem refFeed_all {w : World} {Q : Nat} {L M : List Nat} {lim er : Int} (h : RF w Q L lim er) (hE : er ≠ 0 → L = []) (hM : ∀ b ∈ M, b < 256) (hl : L.length + M.length ≤ 1000000000) :
    Calls Try.prog 22 #[.pointer (some ⟨Q, 0, none⟩), .string (sOf M)] w fun e w' => ∃ pp cp, e = .returned (.tuple #[.slice pp (stZ lim L er M).1.length cp, .int .i64 (stZ lim L er M).2.1]) ∧ PRow w' pp w'.heap.size (stZ lim L er M).1 ∧ RF w' Q (stZ lim L er M).2.2 lim (stZ lim L er M).2.1 ∧ Kx Q none w w' ∧ ∀ a, pp = some a → w.heap.size ≤ a.block := by
  unfold stZ
  by_cases he : er = 0
  · subst he
    rw [if_pos rfl]
    have hc := cutZ_le lim (L ++ M)
    rw [List.length_append] at hc
    refine (refFeed_ok h hM (by omega) (by omega)).mono fun e w' => ?_
    rintro ⟨pv, rfl, h1, h2, h3⟩
    obtain ⟨pp, cp, rfl, hr⟩ := h1.shape
    refine ⟨pp, cp, rfl, hr, h2, h3, fun a e => ?_⟩
    rcases h1.2 with ⟨e0, _⟩ | ⟨g, cap, cur, e0, hb, _⟩
    · injection e0 with e1
      rw [e1] at e
      cases e
    · injection e0 with e1
      rw [e1] at e
      cases e
      exact hb
  · rw [if_neg he]
    refine (refFeed_ref h he).mono fun e w' => ?_
    rintro ⟨rfl, hb⟩
    have := h.below hb
    rw [hE he] at this
    exact ⟨none, 0, rfl, PRow.nil _ _ _, this, Kx.of hb, fun a e => by cases e⟩
theorem Feed_all {w : World} {B R cx : Nat} {px : Option Addr} {v : Value} {L M : List Nat} {lim er : Int} (h : Fr w B R v L 0 lim er) (hb : Buf w B v L) (hS : ∀ W, Below w.heap.size w W → Src Try.prog 1 33 (.slice px M.length cx) M.length (M.map cU) W) (hM : ∀ b ∈ M, b < 256) (hl : L.length + M.length ≤ 1000000000) :
    Calls Try.prog 12 #[.pointer (some ⟨R, 0, none⟩), .slice px M.length cx] w fun e w' => ∃ pp cp v', e = .returned (.tuple #[.slice pp (stZ lim L er M).1.length cp, .int .i64 (stZ lim L er M).2.1]) ∧ POwn w' w.heap.size (.slice pp (stZ lim L er M).1.length cp) (stZ lim L er M).1 ∧ Fr w' B R v' (stZ lim L er M).2.2 0 lim (stZ lim L er M).2.1 ∧ Buf w' B v' (stZ lim L er M).2.2 ∧ Kx R v.ownBlock w w' ∧
      (∀ k, v'.ownBlock = some k → v.ownBlock = some k ∨ w.heap.size ≤ k) ∧ ∀ k, (Value.slice pp (stZ lim L er M).1.length cp).ownBlock = some k → v'.ownBlock ≠ some k := by
  unfold stZ
  by_cases he : er = 0
  · subst he
    rw [if_pos rfl]
    have hc := cutZ_le lim (L ++ M)
    rw [List.length_append] at hc
    refine (Feed_ok h hb hS (by omega) hM (by omega)).mono fun e w' => ?_
    rintro ⟨pv, v', rfl, h1, h2, h3, h4, h5, h6⟩
    obtain ⟨pp, cp, rfl, _⟩ := h1.shape
    exact ⟨pp, cp, v', rfl, h1, h2, h3, h4, h5, h6⟩
  · rw [if_neg he]
    refine (Feed_ref h he).mono fun e w' => ?_
    rintro ⟨rfl, h1, h2⟩
    exact ⟨none, 0, .slice none 0 0, rfl, World.ownsRow_nil _ _ _ _, h1, Buf.nil _ _, h2.any, (fun k hk => by cases hk), (fun k hk => by cases hk)⟩
end Go.Proofs.Ytnicdehbedcdpaa

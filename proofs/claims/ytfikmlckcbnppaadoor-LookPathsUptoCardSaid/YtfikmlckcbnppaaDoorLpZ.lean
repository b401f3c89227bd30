/- LookPaths: the calls in one form; rows that stay; steps written over. -/
import Derived.Test.YtfikmlckcbnppaaDoorLpY
namespace Go.Proofs.YtfikmlckcbnppaaDoor
open Go.ChangeShapes Go.WideShapes Go.ChangeAt Go.RowKit Go.Shelf Go.Maps

def pzL (s : ByteArray) : List (ByteArray × Int) := (pathZ s).1.getD []
def pzE (s : ByteArray) : Int := match (pathZ s).1 with | some _ => 0 | none => 210
def pzA (s : ByteArray) : Int := match (pathZ s).1 with | some _ => 0 | none => ((pathZ s).2 : Int)
theorem paP_len (s : ByteArray) : ∀ (k a : Nat) (l l' : List (ByteArray × Int)) (b : Nat), a ≤ s.size → l.length ≤ a → paP s k a l = (some l', b) → l'.length ≤ s.size
  | 0, a, l, l', b, _, _, h => by simp [paP] at h
  | k + 1, a, l, l', b, ha, hl, h => by
    obtain ⟨h1, h2, h3⟩ := stP_ge ha
    cases hx : stP s a with
    | mk o c =>
      rw [hx] at h1 h2 h3
      cases o with
      | none => rw [paP_none hx] at h; cases h
      | some x =>
        rw [paP_some hx] at h
        have h4 := h3 (by simp)
        simp only at h1 h2 h4
        have hlen : (l ++ [x]).length = l.length + 1 := by simp
        unfold conP at h
        split at h
        · injection h with e1 _
          injection e1 with e1
          rw [← e1, hlen]
          omega
        · split at h
          · exact paP_len s k (c + 1) (l ++ [x]) l' b (by omega) (by omega) h
          · cases h
theorem pzL_len (s : ByteArray) : (pzL s).length ≤ s.size := by
  unfold pzL
  cases hx : pathZ s with
  | mk o c =>
    cases o with
    | none => exact Nat.zero_le _
    | some l =>
      show l.length ≤ s.size
      unfold pathZ at hx
      split at hx
      · injection hx with e1 _
        injection e1 with e1
        rw [← e1]
        exact Nat.zero_le _
      · exact paP_len s _ 0 [] l c (Nat.zero_le _) (Nat.le_refl _) hx
/-- What a Path leaves. -/
def PE (w : World) (L : List (ByteArray × Int)) (E A : Int) (e : Ending) (w' : World) : Prop := ∃ p c, e = .returned (.tuple #[.slice p L.length c, .int .i64 E, .int .i64 A]) ∧ StR w' w.heap.size (.slice p L.length c) L ∧ Below w.heap.size w w'
theorem PathR (s : ByteArray) (hs : s.size ≤ 1048576) (w : World) : Calls Tryd.prog 4 #[.string s] w (PE w (pzL s) (pzE s) (pzA s)) := by
  obtain ⟨o, b0, hp⟩ : ∃ o b0, pathZ s = (o, b0) := ⟨_, _, rfl⟩
  refine (Path21 s hs w hp).mono fun e w' h => ?_
  obtain ⟨h0, ⟨rfl, rfl⟩ | ⟨l, v, rfl, rfl, h1⟩⟩ := h
  · exact ⟨none, 0, by simp [pzL, pzE, pzA, hp], by simp only [pzL, hp]; exact World.ownsRow_nil _ _ _ 2, h0⟩
  · obtain ⟨pv, cv, rfl⟩ := str_shape h1
    exact ⟨pv, cv, by simp [pzL, pzE, pzA, hp], by simp only [pzL, hp]; exact h1, h0⟩
theorem PathP (s : ByteArray) (hs : s.size ≤ 1048576) (w : World) : Calls Tryd.prog 6 #[.string s] w (PE w (pzL s) (pzE s) (pzA s)) := by
  obtain ⟨o, b0, hp⟩ : ∃ o b0, pathZ s = (o, b0) := ⟨_, _, rfl⟩
  cases o with
  | none =>
    refine (Path_no w s hs hp).mono fun e w' h => ?_
    obtain ⟨rfl, h0⟩ := h
    exact ⟨none, 0, by simp [pzL, pzE, pzA, hp], by simp only [pzL, hp]; exact World.ownsRow_nil _ _ _ 2, h0⟩
  | some l =>
    refine (Path_ok w s hs hp).mono fun e w' h => ?_
    obtain ⟨v, rfl, h1, h0⟩ := h
    obtain ⟨pv, cv, rfl⟩ := str_shape h1
    exact ⟨pv, cv, by simp [pzL, pzE, pzA, hp], by simp only [pzL, hp]; exact h1, h0⟩
def txT (l : List (ByteArray × Int)) : ByteArray := (textZ l).getD ⟨#[]⟩
def txE (l : List (ByteArray × Int)) : Int := match textZ l with | some _ => 0 | none => 210
theorem TE.one {w : World} {l : List (ByteArray × Int)} {e : Ending} {w' : World} (h : TE w l e w') : e = .returned (.tuple #[.string (txT l), .int .i64 (txE l)]) ∧ Below w.heap.size w w' := by
  obtain ⟨h0, ⟨t, h1, rfl⟩ | ⟨h1, rfl⟩⟩ := h
  · exact ⟨by simp [txT, txE, h1], h0⟩
  · exact ⟨by simp [txT, txE, h1], h0⟩
theorem StR.sp {W : World} {B : Nat} {p : Option Addr} {c : Nat} {L : List (ByteArray × Int)} (h : StR W B (.slice p L.length c) L) : SpRow W p W.heap.size L :=
  ⟨fun i x hx => by
    have hi := (List.getElem?_eq_some_iff.1 hx).1
    obtain ⟨g, c', e⟩ := own_slic h (by omega)
    injection e with e1 _ e2
    subst e1 e2
    have hs := spL_get L i x hx
    refine ⟨g, 0, rfl, (World.ownsRow.lt h g rfl).2, ?_, ?_⟩
    · rw [Nat.zero_add]; exact ownC h hs.1
    · rw [Nat.zero_add]; exact ownC h hs.2⟩
theorem StR.below {W W' : World} {B : Nat} {v : Value} {L : List (ByteArray × Int)} (h : StR W B v L) (hb : Below W.heap.size W W') : StR W' B v L := own_keep2 h hb
/-- Steps of one's own, written over. -/
structure Ov (W0 : World) (B n : Nat) (p : Option Addr) (c : Nat) (W : World) : Prop where
  row : ∃ xs, W.ownsRow B 46 2 (.slice p n c) n xs
  oth : ∀ k, (Value.slice p n c).ownBlock ≠ some k → W.heap[k]? = W0.heap[k]?
  sz : W.heap.size = W0.heap.size
  os : W.os = W0.os
  tp : W.tape = W0.tape
  ou : W.output = W0.output
theorem own_setP {W : World} {B z n m c g : Nat} {ty : TypeId} {xs : List Value} (h : W.ownsRow B ty z (.slice (some ⟨g, 0, none⟩) m c) n xs) (i : Nat) (u : Value) (hi : i < n * z) : (W.setCell ⟨g, i, none⟩ u).ownsRow B ty z (.slice (some ⟨g, 0, none⟩) m c) n (xs.set i u) ∧ (∃ y, xs[i]? = some y ∧ W.cell? ⟨g, i, none⟩ = some y) ∧ W.frozen? ⟨g, i, none⟩ = false ∧ B ≤ g ∧ g < W.heap.size := by
  rcases h.2 with ⟨e0, _⟩ | ⟨g', cap', cur, e1, h1, h2, h3, h4, h5, h6⟩
  · cases e0
  · cases e1
    have hlt := (Array.getElem?_eq_some_iff.1 h2).1
    refine ⟨⟨by rw [List.length_set]; exact h.1, .inr ⟨g, c, cur.setIfInBounds i u, rfl, h1, set_at h2 _, h3, h4, by simpa using h5, ?_⟩⟩, ?_, frz_at h2, h1, hlt⟩
    · rw [Array.toList_setIfInBounds, List.take_set, h6]
    · have hx : i < xs.length := by rw [h.1]; exact hi
      refine ⟨xs[i], List.getElem?_eq_getElem hx, ?_⟩
      have e : xs[i]? = some xs[i] := List.getElem?_eq_getElem hx
      rw [cell_at h2]
      conv at e => lhs; rw [← h6]
      rw [List.getElem?_take, if_pos hi, Array.getElem?_toList] at e
      exact e
abbrev overS : ByteArray := ⟨#[119, 114, 105, 116, 116, 101, 110, 32, 111, 118, 101, 114]⟩
theorem Ov.put {W0 W : World} {B n j : Nat} {p : Option Addr} {c : Nat} (h : Ov W0 B n p c W) (hj : j < n) : ∃ g, p = some ⟨g, 0, none⟩ ∧ ∃ W', (Instr.storeAt 46 (.pointer (some ⟨g, j * 2, none⟩)) (spV (overS, 0))).run Tryd.prog W = .ok () W' ∧ Ov W0 B n p c W' := by
  obtain ⟨xs, hr⟩ := h.row
  obtain ⟨g, c', e⟩ := own_slic hr (by omega)
  injection e with e1 _ e2
  subst e1 e2
  have h1 := own_setP hr (j * 2) (.string overS) (by omega)
  have h2 := own_setP h1.1 (j * 2 + 1) (.int .i64 0) (by omega)
  have hT : W.there g (j * 2) 2 := fun k hk => by
    obtain ⟨-, ⟨y, -, hy⟩, hf, -⟩ := own_setP hr (j * 2 + k) (.bool false) (by omega)
    exact ⟨by rw [hy]; rfl, hf⟩
  refine ⟨g, rfl, _, run_storeAt_mid W g (j * 2) 46 (spC (overS, 0)) hT infoSp (sp_one _), ⟨⟨_, h2.1⟩, fun k hk => ?_, ?_, h.os, h.tp, h.ou⟩⟩
  · have hk' : k ≠ g := fun e => hk (by rw [e]; rfl)
    exact (set_off hk').trans ((set_off hk').trans (h.oth k hk))
  · refine Eq.trans ?_ h.sz
    simp [World.setCells, World.setCell]
theorem Ov.keep {W0 W : World} {B n B' : Nat} {p : Option Addr} {c : Nat} {v : Value} {L : List (ByteArray × Int)} (h : Ov W0 B n p c W) (hv : StR W0 B' v L) (hd : ∀ k, v.ownBlock = some k → (Value.slice p n c).ownBlock ≠ some k) : StR W B' v L :=
  own_stay hv fun g hg => h.oth g (hd g hg)
end Go.Proofs.YtfikmlckcbnppaaDoor

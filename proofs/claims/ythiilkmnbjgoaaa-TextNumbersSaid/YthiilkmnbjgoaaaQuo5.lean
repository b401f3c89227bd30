/- The contract of Unquote. -/
import Derived.Test.YthiilkmnbjgoaaaQuo4
namespace Go.Proofs.Ythiilkmnbjgoaaa
open Go.ChangeShapes Go.WideShapes Go.ChangeAt Go.RowKit

/-- What is read from a place on: the text, the place, the error. -/
def unqF (s : ByteArray) : Nat → Nat → List Nat → List Nat × Nat × Nat
  | 0, a, _ => ([], a, 23)
  | n + 1, a, acc =>
    if s.size ≤ a then ([], a, 23)
    else if ch s a = 34 then (acc, a + 1, 0)
    else if a + 1 < s.size ∧ ch s a = 92 ∧ ch s (a + 1) = 120 then
      (if (pairN s (a + 2)).2 < a + 4 then ([], (pairN s (a + 2)).2, 23) else unqF s n (a + 4) (acc ++ [(pairN s (a + 2)).1]))
    else if ch s a = 92 then
      (if a + 1 = s.size then ([], a + 1, 23) else
        match markF (ch s (a + 1)) with
        | some m => unqF s n (a + 2) (acc ++ [m])
        | none => ([], a + 1, 23))
    else if plainB (ch s a) then unqF s n (a + 1) (acc ++ [ch s a]) else ([], a, 23)
def unqN (s : ByteArray) : List Nat × Nat × Nat := if s.size = 0 ∨ ¬ ch s 0 = 34 then ([], 0, 23) else unqF s (s.size + 1) 1 []
theorem unqF_more (s : ByteArray) : ∀ n a acc, a ≤ s.size → s.size < n + a → ∀ m, s.size < m + a → unqF s n a acc = unqF s m a acc
  | 0, a, acc, ha, hn, _, hm => by omega
  | n + 1, a, acc, ha, hn, 0, hm => by omega
  | n + 1, a, acc, ha, hn, m + 1, hm => by
    simp only [unqF]
    split
    · rfl
    · split
      · rfl
      · split
        · split
          · rfl
          · rename_i h3 h4
            by_cases h5 : a + 4 ≤ s.size
            · exact unqF_more s n _ _ h5 (by omega) m (by omega)
            · exfalso
              have := pairN_le s (a + 2) (by omega)
              omega
        · split
          · split
            · rfl
            · split
              · exact unqF_more s n _ _ (by omega) (by omega) m (by omega)
              · rfl
          · split
            · exact unqF_more s n _ _ (by omega) (by omega) m (by omega)
            · rfl
theorem unq_step (s : ByteArray) (a : Nat) (acc : List Nat) (ha : a < s.size) : unqF s (s.size + 1) a acc =
    if ch s a = 34 then (acc, a + 1, 0)
    else if a + 1 < s.size ∧ ch s a = 92 ∧ ch s (a + 1) = 120 then
      (if (pairN s (a + 2)).2 < a + 4 then ([], (pairN s (a + 2)).2, 23) else unqF s (s.size + 1) (a + 4) (acc ++ [(pairN s (a + 2)).1]))
    else if ch s a = 92 then
      (if a + 1 = s.size then ([], a + 1, 23) else
        match markF (ch s (a + 1)) with
        | some m => unqF s (s.size + 1) (a + 2) (acc ++ [m])
        | none => ([], a + 1, 23))
    else if plainB (ch s a) then unqF s (s.size + 1) (a + 1) (acc ++ [ch s a]) else ([], a, 23) := by
  rw [unqF, if_neg (by omega)]
  split
  · rfl
  · split
    · split
      · rfl
      · rename_i h3 h4
        have := pairN_le s (a + 2) (by omega)
        exact unqF_more s _ _ _ (by omega) (by omega) _ (by omega)
    · split
      · split
        · rfl
        · split
          · exact unqF_more s _ _ _ (by omega) (by omega) _ (by omega)
          · rfl
      · split
        · exact unqF_more s _ _ _ (by omega) (by omega) _ (by omega)
        · rfl
theorem plain_not {c : Nat} (h : plainB c = true) : ¬ c = 34 ∧ ¬ c = 92 := by
  unfold plainB at h
  simp at h
  exact ⟨h.1.2, h.2⟩
theorem unq_run (s : ByteArray) (a e : Nat) (acc : List Nat) (hae : a ≤ e) (he : e ≤ s.size) (hp : ∀ j, a ≤ j → j < e → plainB (ch s j) = true) : unqF s (s.size + 1) a acc = unqF s (s.size + 1) e (acc ++ lOf (s.extract a e)) := by
  obtain ⟨k, rfl⟩ : ∃ k, e = a + k := ⟨e - a, by omega⟩
  clear hae
  induction k with
  | zero => rw [lOf_extract]; simp
  | succ k ih =>
    rw [ih (by omega) (fun j h1 h2 => hp j h1 (by omega))]
    have hk := hp (a + k) (by omega) (by omega)
    obtain ⟨n1, n2⟩ := plain_not hk
    rw [unq_step s (a + k) _ (by omega), if_neg n1, if_neg (fun hh => n2 hh.2.1), if_neg n2, if_pos hk]
    have : acc ++ lOf (s.extract a (a + k)) ++ [ch s (a + k)] = acc ++ lOf (s.extract a (a + (k + 1))) := by
      rw [List.append_assoc]
      congr 1
      rw [lOf_extract, lOf_extract, show a + k - a = k by omega, show a + (k + 1) - a = k + 1 by omega, List.take_add_one]
      congr 1
      have h2 : a + k < (lOf s).length := by rw [lOf_length]; omega
      rw [List.getElem?_drop, ch_lOf]
      simp [List.getD, h2]
    rw [this, Nat.add_assoc]
/-- The place of a reader. -/
def plc (w : World) (g : Nat) : Nat := match w.cell? ⟨g, 1, none⟩ with
  | some (.int _ n) => n.toNat
  | _ => 0
theorem Rd.plc {w : World} {g : Nat} {s : ByteArray} {a : Nat} {v : Value} {L : List Nat} {x : Option Value} (h : Rd w g s a v L x) : plc w g = a := by
  unfold Go.Proofs.Ythiilkmnbjgoaaa.plc
  rw [h.h1]
  simp
theorem ret_tri {a b : ByteArray} {c d e f : Int} (h1 : a = b) (h2 : c = d) (h3 : e = f) : Ending.returned (.tuple #[.string a, .int .i64 c, .int .i64 e]) = .returned (.tuple #[.string b, .int .i64 d, .int .i64 f]) := by rw [h1, h2, h3]
theorem Unquote_no (s : ByteArray) (w : World) (h : s.size = 0 ∨ ¬ ch s 0 = 34) :
    Calls Try.prog 11 #[.string s] w fun e w' => e = .returned (.tuple #[.string (sOf (unqN s).1), .int .i64 ((unqN s).2.1 : Nat), .int .i64 ((unqN s).2.2 : Nat)]) ∧ Below w.heap.size w w' := by
  have e : unqN s = ([], 0, 23) := by unfold unqN; rw [if_pos h]
  rw [e]
  by_cases h0 : s.size = 0
  · obtain rfl : s = ByteArray.empty := by
      apply ba_ext
      have : s.data.toList.length = 0 := by rw [tl_len]; exact h0
      rw [List.length_eq_zero_iff.1 this]; rfl
    go_enter Try.func11, Try.ntmps11
    go_wp2
    exact bodyPost_ret (v := .tuple #[.string ⟨#[]⟩, .int .i64 0, .int .i64 23]) (by simp [results, Try.results11, go_sem]) rfl ⟨rfl, Below.refl _ _⟩
  · have h1 : ¬ ch s 0 = 34 := by rcases h with h | h; exact absurd h h0; exact h
    have ne1 : (s.toList == []) = false := by
      rw [ByteArray.toList_eq]
      have : s.data.toList.length = s.size := tl_len s
      cases hh : s.data.toList with
      | nil => rw [hh] at this; simp at this; omega
      | cons a b => rfl
    have i0 : ∀ w : World, (Instr.index 9 (.string s) (.int .i64 0)).run Try.prog w = .ok (.int .u8 (ch s 0 : Int)) w := fun w => idx (w := w) s 0 (by omega) .i64
    have q1 : ((ch s 0 : Int) == 34) = false := by simp; omega
    have q2 : ((ch s 0 : Int) != 34) = true := by simp; omega
    have et : ({ data := #[] } : ByteArray).toList = [] := by rw [ByteArray.toList_eq]
    go_enter Try.func11, Try.ntmps11
    go_wp2
    exact bodyPost_ret (v := .tuple #[.string ⟨#[]⟩, .int .i64 0, .int .i64 23]) (by simp [results, Try.results11, go_sem]) rfl ⟨rfl, Below.refl _ _⟩
set_option maxHeartbeats 4000000 in
theorem Unquote_yes (s : ByteArray) (w : World) (hs : s.size ≤ 35184372088832) (h0 : 1 ≤ s.size) (h34 : ch s 0 = 34) :
    Calls Try.prog 11 #[.string s] w fun e w' => e = .returned (.tuple #[.string (sOf (unqN s).1), .int .i64 ((unqN s).2.1 : Nat), .int .i64 ((unqN s).2.2 : Nat)]) ∧ Below w.heap.size w w' := by
  have eN : unqN s = unqF s (s.size + 1) 1 [] := by unfold unqN; rw [if_neg (by omega)]
  have ne1 : (s.toList == []) = false := by
    rw [ByteArray.toList_eq]
    have : s.data.toList.length = s.size := tl_len s
    cases hh : s.data.toList with
    | nil => rw [hh] at this; simp at this; omega
    | cons a b => rfl
  have i0 : ∀ w : World, (Instr.index 9 (.string s) (.int .i64 0)).run Try.prog w = .ok (.int .u8 (ch s 0 : Int)) w := fun w => idx (w := w) s 0 (by omega) .i64
  have q1 : ((ch s 0 : Int) == 34) = true := by simp; omega
  have q2 : ((ch s 0 : Int) != 34) = false := by simp; omega
  have et : ({ data := #[] } : ByteArray).toList = [] := by rw [ByteArray.toList_eq]
  go_enter Try.func11, Try.ntmps11
  go_wp2
  clear i0 q1 q2 ne1 et
  have R0 : Rd (w.alloc (.cells #[.string s, .int .i64 1, .slice none 0 0] 46)) w.heap.size s 1 (.slice none 0 0) [] none :=
    ⟨by simp [go_sem], by simp [go_sem], by simp [go_sem], by simp [go_sem], fun o => by simp [go_sem], Buf.nil _ _, by simp⟩
  have B0 := bel1 w (.cells #[.string s, .int .i64 1, .slice none 0 0] 46)
  go_loopw [6] (fun _ wr => ∃ a v L, a ≤ s.size ∧ L.length ≤ a ∧ Rd wr w.heap.size s a v L none ∧ unqF s (s.size + 1) a L = unqN s ∧ Below w.heap.size w wr) (fun _ wr => s.size - plc wr w.heap.size)
  case atStart => exact ⟨1, _, [], h0, by simp, R0, eN.symm, B0⟩
  case round =>
    obtain ⟨a, v, L, ha, hL, R, hq, HB⟩ := hrel
    have c0 := R.h0
    have c1 := R.h1
    have c2 := R.h2
    have hsl := fun w => slice_from s a ha w
    have hpl := R.plc
    by_cases he : a < s.size ∧ ch s a = 34
    · have pq : prefB (s.extract a s.size) { data := #[34] } = true := by rw [pre1]; simp [he]
      have hcv : ∀ n, (convert 22 9 v).run Try.prog (wr.drewN n) = .ok (.string (sOf L)) (wr.drewN n) := fun n => (R.drewN n).buf.conv
      rw [unq_step s a L he.1, if_pos he.2] at hq
      clear R
      go_wp2
      go_quiet ((go_at_call 20; refine Calls.quiet_of_same (HasPrefix_any _ _ _)))
      go_wp2
      go_quiet (fail)
      go_wp2
      rw [← hq]
      exact bodyPost_ret (v := .tuple #[.string (sOf L), .int .i64 ((a : Int) + 1), .int .i64 0]) (by simp [results, Try.results11, go_sem]) rfl ⟨ret_tri rfl (by simp) rfl, bdN (bdN HB _) _⟩
    · have pq : prefB (s.extract a s.size) { data := #[34] } = false := by
        rw [pre1, Bool.eq_false_iff]
        simp
        intro h1 h2
        exact he ⟨h1, h2⟩
      have hsz : s.size ≤ 140737488355328 := by omega
      by_cases hend : a = s.size
      · have hk : itemK s a = 32 := by unfold itemK; rw [if_neg (by omega), if_neg (by omega)]
        rw [show unqF s (s.size + 1) a L = ([], a, 23) by rw [unqF, if_pos (by omega)]] at hq
        have hend' : Hid (a = s.size) := hend
        clear hend
        go_wp2
        go_quiet ((go_at_call 20; refine Calls.quiet_of_same (HasPrefix_any _ _ _)))
        go_wp2_with (first | (go_at_call 21; refine (qitem_any w.heap.size s a v L none _ (R.drewN _) ha).mono ?_; rintro e w1 ⟨rfl, n1, rfl⟩) | (go_at_call 32; refine (qplain_any w.heap.size s a v L none _ (R.drewN _) ha (by omega)).mono ?_; rintro r w2 ⟨e, e1, e2, e3, e4, hb2, hor⟩; obtain ⟨-, rfl, hR⟩ : e = a ∧ r = .returned (.bool false) ∧ Rd w2 w.heap.size s a v L none := (by rcases hor with h | ⟨h, _⟩; exact h; (have := hend'.out; omega))))
        have c1' := hR.h1
        go_quiet (fail)
        go_wp2
        rw [← hq]
        exact bodyPost_ret (v := .tuple #[.string ⟨#[]⟩, .int .i64 (a : Int), .int .i64 23]) (by simp [results, Try.results11, go_sem]) rfl ⟨ret_tri rfl rfl rfl, bdN (HB.trans ((bdN (Below.refl _ _) _).trans hb2)) _⟩
      · have hlt : a < s.size := by omega
        have n34 : ¬ ch s a = 34 := fun e => he ⟨hlt, e⟩
        rw [unq_step s a L hlt, if_neg n34] at hq
        by_cases k1 : a + 1 < s.size ∧ ch s a = 92 ∧ ch s (a + 1) = 120
        · have hk : itemK s a = 30 := by unfold itemK; rw [if_pos k1]
          rw [if_pos k1] at hq
          have hpl2 := pairN_le2 s (a + 2)
          by_cases hp : (pairN s (a + 2)).2 < a + 4
          · rw [if_pos hp] at hq
            go_wp2
            go_quiet ((go_at_call 20; refine Calls.quiet_of_same (HasPrefix_any _ _ _)))
            go_wp2_with (first | (go_at_call 21; refine (qitem_any w.heap.size s a v L none _ (R.drewN _) ha).mono ?_; rintro e w1 ⟨rfl, n1, rfl⟩) | (go_at_call 30; refine (qhex_no w.heap.size s a v L none _ (R.drewN _) (by omega) hp).mono ?_; rintro r w2 ⟨rfl, hR, hb2⟩))
            have c1' := hR.h1
            go_quiet (fail)
            go_wp2
            rw [← hq]
            exact bodyPost_ret (v := .tuple #[.string ⟨#[]⟩, .int .i64 (((pairN s (a + 2)).2 : Nat) : Int), .int .i64 23]) (by simp [results, Try.results11, go_sem]) rfl ⟨ret_tri rfl rfl rfl, bdN (HB.trans ((bdN (Below.refl _ _) _).trans hb2)) _⟩
          · rw [if_neg hp] at hq
            have hp4 : (pairN s (a + 2)).2 = a + 4 := by omega
            have hin := pairN_le s (a + 2) (by omega)
            rw [hp4] at hin
            have hp5 : Hid ((pairN s (a + 2)).2 = a + 4) := hp4
            clear hp4 hpl2
            go_wp2
            go_quiet ((go_at_call 20; refine Calls.quiet_of_same (HasPrefix_any _ _ _)))
            go_wp2_with (first | (go_at_call 21; refine (qitem_any w.heap.size s a v L none _ (R.drewN _) ha).mono ?_; rintro e w1 ⟨rfl, n1, rfl⟩) | (go_at_call 30; refine (qhex_yes w.heap.size s a v L none _ (R.drewN _) (by omega) hp5.out (by omega)).mono ?_; rintro r w2 ⟨rfl, ⟨v', hR⟩, hb2⟩))
            go_roundw
            case rel => exact ⟨a + 4, v', L ++ [(pairN s (a + 2)).1], by omega, by simp; omega, hR, hq, HB.trans ((bdN (Below.refl _ _) _).trans hb2)⟩
            case measure => rw [hR.plc, hpl]; omega
        · rw [if_neg k1] at hq
          by_cases k2 : ch s a = 92
          · have hk : itemK s a = 31 := by unfold itemK; rw [if_neg k1, if_pos ⟨hlt, k2⟩]
            rw [if_pos k2] at hq
            by_cases h1 : a + 1 = s.size
            · rw [if_pos h1] at hq
              have h1' : Hid (a + 1 = s.size) := h1
              clear h1
              go_wp2
              go_quiet ((go_at_call 20; refine Calls.quiet_of_same (HasPrefix_any _ _ _)))
              go_wp2_with (first | (go_at_call 21; refine (qitem_any w.heap.size s a v L none _ (R.drewN _) ha).mono ?_; rintro e w1 ⟨rfl, n1, rfl⟩) | (go_at_call 31; refine (qmarked_end w.heap.size s a v L none _ (R.drewN _) h1'.out hsz).mono ?_; rintro r w2 ⟨rfl, hR, hb2⟩))
              have c1' := hR.h1
              go_quiet (fail)
              go_wp2
              rw [← hq]
              exact bodyPost_ret (v := .tuple #[.string ⟨#[]⟩, .int .i64 (((a + 1) : Nat) : Int), .int .i64 23]) (by simp [results, Try.results11, go_sem]) rfl ⟨ret_tri rfl rfl rfl, bdN (HB.trans ((bdN (Below.refl _ _) _).trans hb2)) _⟩
            · rw [if_neg h1] at hq
              cases hm : markF (ch s (a + 1)) with
              | none =>
                rw [hm] at hq
                dsimp only at hq
                have hm' : Hid (markF (ch s (a + 1)) = none) := hm
                clear hm
                go_wp2
                go_quiet ((go_at_call 20; refine Calls.quiet_of_same (HasPrefix_any _ _ _)))
                go_wp2_with (first | (go_at_call 21; refine (qitem_any w.heap.size s a v L none _ (R.drewN _) ha).mono ?_; rintro e w1 ⟨rfl, n1, rfl⟩) | (go_at_call 31; refine (qmarked_no w.heap.size s a v L none _ (R.drewN _) (by omega) hsz hm'.out).mono ?_; rintro r w2 ⟨rfl, hR, hb2⟩))
                have c1' := hR.h1
                go_quiet (fail)
                go_wp2
                rw [← hq]
                exact bodyPost_ret (v := .tuple #[.string ⟨#[]⟩, .int .i64 (((a + 1) : Nat) : Int), .int .i64 23]) (by simp [results, Try.results11, go_sem]) rfl ⟨ret_tri rfl rfl rfl, bdN (HB.trans ((bdN (Below.refl _ _) _).trans hb2)) _⟩
              | some m =>
                rw [hm] at hq
                dsimp only at hq
                have hm' : Hid (markF (ch s (a + 1)) = some m) := hm
                clear hm
                go_wp2
                go_quiet ((go_at_call 20; refine Calls.quiet_of_same (HasPrefix_any _ _ _)))
                go_wp2_with (first | (go_at_call 21; refine (qitem_any w.heap.size s a v L none _ (R.drewN _) ha).mono ?_; rintro e w1 ⟨rfl, n1, rfl⟩) | (go_at_call 31; refine (qmarked_any w.heap.size s a v L none _ (R.drewN _) (by omega) hsz (by omega) m hm'.out).mono ?_; rintro r w2 ⟨rfl, ⟨v', hR⟩, hb2⟩))
                go_roundw
                case rel => exact ⟨a + 2, v', L ++ [m], by omega, by simp; omega, hR, hq, HB.trans ((bdN (Below.refl _ _) _).trans hb2)⟩
                case measure => rw [hR.plc, hpl]; omega
          · have hk : itemK s a = 32 := by unfold itemK; rw [if_neg k1, if_neg (fun h => k2 h.2)]
            rw [if_neg k2] at hq
            cases hpb : plainB (ch s a)
            · rw [hpb, if_neg (by decide)] at hq
              go_wp2
              go_quiet ((go_at_call 20; refine Calls.quiet_of_same (HasPrefix_any _ _ _)))
              go_wp2_with (first | (go_at_call 21; refine (qitem_any w.heap.size s a v L none _ (R.drewN _) ha).mono ?_; rintro e w1 ⟨rfl, n1, rfl⟩) | (go_at_call 32; refine (qplain_any w.heap.size s a v L none _ (R.drewN _) ha (by omega)).mono ?_; rintro r w2 ⟨e, e1, e2, e3, e4, hb2, hor⟩; obtain ⟨-, rfl, hR⟩ : e = a ∧ r = .returned (.bool false) ∧ Rd w2 w.heap.size s a v L none := (by rcases hor with h | ⟨h, _⟩; exact h; exact absurd (e3 a (Nat.le_refl _) h) (by rw [hpb]; decide))))
              have c1' := hR.h1
              go_quiet (fail)
              go_wp2
              rw [← hq]
              exact bodyPost_ret (v := .tuple #[.string ⟨#[]⟩, .int .i64 (a : Int), .int .i64 23]) (by simp [results, Try.results11, go_sem]) rfl ⟨ret_tri rfl rfl rfl, bdN (HB.trans ((bdN (Below.refl _ _) _).trans hb2)) _⟩
            · rw [hpb, if_pos rfl] at hq
              have hq2 : Hid (unqF s (s.size + 1) a L = unqN s) := by
                show unqF s (s.size + 1) a L = unqN s
                rw [unq_step s a L hlt, if_neg n34, if_neg k1, if_neg k2, hpb, if_pos rfl]; exact hq
              clear hq
              go_wp2
              go_quiet ((go_at_call 20; refine Calls.quiet_of_same (HasPrefix_any _ _ _)))
              go_wp2_with (first | (go_at_call 21; refine (qitem_any w.heap.size s a v L none _ (R.drewN _) ha).mono ?_; rintro e w1 ⟨rfl, n1, rfl⟩) | (go_at_call 32; refine (qplain_any w.heap.size s a v L none _ (R.drewN _) ha (by omega)).mono ?_; rintro r w2 ⟨e, e1, e2, e3, e4, hb2, hor⟩; obtain ⟨hae, rfl, v', hR⟩ : a < e ∧ r = .returned (.bool true) ∧ ∃ v', Rd w2 w.heap.size s e v' (L ++ lOf (s.extract a e)) none := by rcases hor with ⟨h, _⟩ | h; exact absurd (e4 (by omega)) (by rw [h, hpb]; decide); exact h))
              have hq := hq2.out
              rw [unq_run s a e L e1 e2 e3] at hq
              have hle : (lOf (s.extract a e)).length = e - a := by rw [lOf_length, size_ext s a e e2]
              go_roundw
              case rel => exact ⟨e, v', L ++ lOf (s.extract a e), by omega, by rw [List.length_append, hle]; omega, hR, hq, HB.trans ((bdN (Below.refl _ _) _).trans hb2)⟩
              case measure => rw [hR.plc, hpl]; omega
theorem Unquote_any (s : ByteArray) (w : World) (hs : s.size ≤ 35184372088832) :
    Calls Try.prog 11 #[.string s] w fun e w' => e = .returned (.tuple #[.string (sOf (unqN s).1), .int .i64 ((unqN s).2.1 : Nat), .int .i64 ((unqN s).2.2 : Nat)]) ∧ Below w.heap.size w w' := by
  by_cases h : s.size = 0 ∨ ¬ ch s 0 = 34
  · exact Unquote_no s w h
  · exact Unquote_yes s w hs (by omega) (by omega)
end Go.Proofs.Ythiilkmnbjgoaaa

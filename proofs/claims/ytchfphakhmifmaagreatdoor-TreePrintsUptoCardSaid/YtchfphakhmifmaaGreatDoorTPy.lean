/- The tree's printer: pieces. -/
import Derived.Test.YtchfphakhmifmaaGreatDoorTPq
import Derived.Test.YtchfphakhmifmaaGreatDoorPA
namespace Go.Proofs.YtchfphakhmifmaaGreatDoor
open Go.ChangeShapes Go.WideShapes Go.ChangeAt Go.RowKit Go.Lib

theorem pcsF_at {es : List El} {j : Nat} {e : El} (st : List ByteArray) (h : es[j]? = some e) : pcsF (es.drop j) st = shutL st (e.d - 1).toNat ++ (putP e (holdsB e (es.drop (j + 1))) ++ pcsF (es.drop (j + 1)) (putS e (holdsB e (es.drop (j + 1))) (cutS st (e.d - 1).toNat))) := by
  rw [drop_at h, pcsF]
theorem holds_at {es : List El} {j : Nat} {e y : El} (h : es[j + 1]? = some y) : holdsB e (es.drop (j + 1)) = decide (e.d < y.d) := by rw [drop_at h]; rfl
theorem holds_end {es : List El} {j : Nat} {e : El} (h : es.length ≤ j + 1) : holdsB e (es.drop (j + 1)) = false := by rw [List.drop_eq_nil_of_le h]; rfl
theorem putS_len (e : El) (hb : Bool) (st : List ByteArray) : (putS e hb st).length ≤ st.length + 1 := by
  unfold putS
  split
  · omega
  · rw [List.length_cons]; omega
theorem cutS_len (st : List ByteArray) (d : Nat) : (cutS st d).length ≤ st.length := by unfold cutS; rw [List.length_drop]; omega
theorem shutL_len (st : List ByteArray) (d : Nat) : (shutL st d).length ≤ st.length := by unfold shutL; rw [List.length_map, List.length_take]; omega
theorem tr_mem : ∀ (r : List El) (a : Int), Tr a r → ∀ e ∈ r, 1 ≤ e.d ∧ e.d ≤ 16 ∧ GE e
  | [], _, _, e, h => by cases h
  | x :: r, a, ⟨h1, h2, h3, h4, h5⟩, e, h => by
    rcases List.mem_cons.1 h with rfl | h
    · exact ⟨h1, h3, h4⟩
    · exact tr_mem r _ h5 e h
abbrev prO (a b : Value) : Obj := .cells #[a, b] 88
theorem PP.new (w : World) : PP (w.alloc (prO (.slice none 0 0) (.slice none 0 0))) w.heap.size (w.heap.size + 1) (.slice none 0 0) (.slice none 0 0) [] [] := by
  have hN := heap_new w (prO (.slice none 0 0) (.slice none 0 0))
  refine ⟨by simp only [World.cell?, hN]; rfl, by simp only [World.cell?, hN]; rfl, fun o => by simp only [World.frozen?, hN]; simp, Nat.lt_succ_self _, by rw [World.size_alloc]; omega, ⟨fun c => ?_, fun c c' _ k hk => ?_⟩⟩
  · unfold p2
    by_cases h0 : c = 0
    · rw [if_pos h0]; exact World.ownsRow_nil _ _ _ _
    · rw [if_neg h0]
      by_cases h1 : c = 1
      · rw [if_pos h1]; exact World.ownsRow_nil _ _ _ _
      · rw [if_neg h1]; exact World.ownsRow_nil _ _ _ _
  · unfold p2 at hk
    by_cases h0 : c = 0
    · rw [if_pos h0] at hk; cases hk
    · rw [if_neg h0] at hk
      by_cases h1 : c = 1
      · rw [if_pos h1] at hk; cases hk
      · rw [if_neg h1] at hk; cases hk
theorem elB_all {W : World} {X : Nat} {e : El} {v : Value} (h : W.heap[X]? = some (elB e v)) : W.cell? ⟨X, 0, none⟩ = some (.int .i64 e.d) ∧ W.cell? ⟨X, 1, none⟩ = some (.string e.nm) ∧ W.cell? ⟨X, 2, none⟩ = some v ∧ W.cell? ⟨X, 3, none⟩ = some (.string e.tx) ∧ W.cell? ⟨X, 4, none⟩ = some (.int .i64 e.p) := by
  refine ⟨?_, ?_, ?_, ?_, ?_⟩ <;> (simp only [World.cell?, h]; rfl)
set_option maxRecDepth 100000 in
set_option maxHeartbeats 8000000 in
theorem pieces_any2 (pp : Option Addr) (cp : Nat) (es : List El) (w : World) (hr : ERow w pp w.heap.size es) (ht : Tr 0 es) (hn : es.length ≤ 20000) :
    Calls Tryz.prog 28 #[.slice pp es.length cp] w fun e w' => ∃ v, e = .returned v ∧ w'.ownsRow (w.heap.size + 1) 39 4 v (pcsF es []).length (itCells (pcsF es [])) ∧ Below w.heap.size w w' := by
  have hP : (pcsF es []).length ≤ 560000 := by have := pcsF_len es 0 [] ht; simp at this; omega
  have hb0 := bel1 w (prO (.slice none 0 0) (.slice none 0 0))
  have hp0 := PP.new w
  have HBl : Hid (∀ v n W, Pk w.heap.size (.slice none 0 0) (.slice none 0 0) v n (w.alloc (prO (.slice none 0 0) (.slice none 0 0))) W → Below w.heap.size w W ∧ ERow W pp w.heap.size es) := Hid.mkP fun v n W h => by
    have hb := hb0.trans (h.below hp0)
    exact ⟨hb, hr.below hb⟩
  have hmem := tr_mem es 0 ht
  generalize hW0 : w.alloc (prO (.slice none 0 0) (.slice none 0 0)) = W0 at hp0 HBl
  generalize hPP : pcsF es [] = P at hP ⊢
  have HP : Hid (pcsF es [] = P) := hPP
  clear hb0 hr ht hPP
  go_enter Tryz.func28, Tryz.ntmps28
  go_wp2_with fail
  clear hW0
  go_loopw [4, 6, 9] (fun i h n wr => ∃ (j : Nat) (v1 n1 : Value) (t1 : List IT) (s1 : List ByteArray), j ≤ es.length ∧ n = .int .i64 j ∧ Pk w.heap.size (.slice none 0 0) (.slice none 0 0) v1 n1 W0 wr ∧ PP wr w.heap.size (w.heap.size + 1) v1 n1 t1 s1.reverse ∧ s1.length ≤ j ∧ Hid (t1 ++ pcsF (es.drop j) s1 = P) ∧ i = i ∧ h = h) (fun _ _ n _ => es.length - (RowKit.intOf n).toNat)
  case atStart => exact ⟨0, _, _, [], [], Nat.zero_le _, by go_num, Pk.refl _ _ _ _, hp0, Nat.le_refl _, HP, rfl, rfl⟩
  case round =>
    obtain ⟨j, v1, n1, t1, s1, hj, rfl, k1, p1, hs1, hq, -, -⟩ := hrel
    have ht1 : t1.length ≤ 560000 := by have := congrArg List.length hq.out; rw [List.length_append] at this; omega
    by_cases hlt : j < es.length
    · obtain ⟨e, hx⟩ : ∃ e, es[j]? = some e := ⟨es[j], List.getElem?_eq_getElem hlt⟩
      obtain ⟨hd1, hd2, hge⟩ := hmem e (List.mem_of_getElem? hx)
      have ha24 := hge.a24
      obtain ⟨g, o, pa, ca, rfl, hg, q0, q1, q2, q3, q4, hA⟩ := (HBl.out _ _ wr k1).2.c j e hx
      have hb1 := bel1 wr (elB e (.slice pa e.ats.length ca))
      have hN := heap_new wr (elB e (.slice pa e.ats.length ca))
      have hsl := shutL_len s1 (e.d - 1).toNat
      have hcl := cutS_len s1 (e.d - 1).toNat
      have cS := shutTo_any w.heap.size (w.heap.size + 1) (e.d - 1).toNat v1 n1 t1 s1 _ (p1.keep hb1) (by omega)
      have hdz : (((e.d - 1).toNat : Nat) : Int) = e.d - 1 := by omega
      have hdw : IntKind.i64.wrap (e.d - 1) = e.d - 1 := by rw [IntKind.wrap_i64]; omega
      rw [hdz] at cS
      have hv1 : ∀ k, v1.ownBlock = some k → k < wr.heap.size := fun k hk => (ownLt p1.own0 hk).2
      have hn1 : ∀ k, n1.ownBlock = some k → k < wr.heap.size := fun k hk => (ownLt p1.own1 hk).2
      have hRl : w.heap.size < wr.heap.size := by have := p1.lt; have := p1.hB; omega
      have HB : Hid (∀ v n W, Pk w.heap.size v1 n1 v n (wr.alloc (elB e (.slice pa e.ats.length ca))) W → W.heap[wr.heap.size]? = some (elB e (.slice pa e.ats.length ca)) ∧ Pk w.heap.size (.slice none 0 0) (.slice none 0 0) v n W0 W) := Hid.mkP fun v n W h =>
        ⟨(h.block wr.heap.size (by rw [World.size_alloc]; omega) (by omega) (fun e => by have := hv1 _ e; omega) (fun e => by have := hn1 _ e; omega)).trans hN, k1.trans ((Pk.of hb1).trans h)⟩
      have hF := pcsF_at s1 hx
      have hlti : (j : Int) < es.length := by omega
      have HPut : Hid (∀ (hb : Bool) (v2 n2 : Value) (w2 : World), hb = holdsB e (es.drop (j + 1)) → Pk w.heap.size v1 n1 v2 n2 (wr.alloc (elB e (.slice pa e.ats.length ca))) w2 → PP w2 w.heap.size (w.heap.size + 1) v2 n2 (t1 ++ shutL s1 (e.d - 1).toNat) (cutS s1 (e.d - 1).toNat).reverse →
          Calls Tryz.prog 52 #[.pointer (some ⟨w.heap.size, 0, none⟩), elW e (.slice pa e.ats.length ca), .bool hb] w2 fun r w' => r = .returned (.tuple #[]) ∧ ∃ (v1 n1 : Value) (t1 : List IT) (s1 : List ByteArray), Pk w.heap.size (.slice none 0 0) (.slice none 0 0) v1 n1 W0 w' ∧ PP w' w.heap.size (w.heap.size + 1) v1 n1 t1 s1.reverse ∧ s1.length ≤ j + 1 ∧ Hid (t1 ++ pcsF (es.drop (j + 1)) s1 = P)) := Hid.mkP fun hb v2 n2 w2 hhb k2 p2 => by
        refine (put_any w.heap.size (w.heap.size + 1) v2 n2 _ (cutS s1 (e.d - 1).toNat) e pa ca hb w2 p2 (hA.below (((Pk.of (R := w.heap.size) (vO := v1) (vN := n1) hb1).trans k2).below p1)) (by omega) (by rw [List.length_append]; omega) (by omega)).mono ?_
        rintro r w' ⟨rfl, v3, n3, k3, p3⟩
        refine ⟨rfl, v3, n3, _, _, k1.trans (((Pk.of hb1).trans k2).trans k3), p3, ?_, Hid.mkP ?_⟩
        · have := putS_len e hb (cutS s1 (e.d - 1).toNat); omega
        · rw [← hq.out, hF, hhb, List.append_assoc, List.append_assoc]
      have hx2 : ∀ y, es[j + 1]? = some y → ∀ W, ERow W (some ⟨g, o, none⟩) w.heap.size es → W.cell? ⟨g, o + (j + 1) * 5, none⟩ = some (.int .i64 y.d) := fun y hy W hW => by
        obtain ⟨g9, o9, _, _, e9, _, h9, _⟩ := hW.c (j + 1) y hy
        cases e9
        exact h9
      have HE : Hid (∀ v n W, Pk w.heap.size (.slice none 0 0) (.slice none 0 0) v n W0 W → ERow W (some ⟨g, o, none⟩) w.heap.size es) := Hid.mkP fun v n W h => (HBl.out v n W h).2
      clear hb1 hN hsl hcl hv1 hn1 hRl hF hA hge HP p1 hq hmem HBl
      have hw1 : IntKind.i64.wrap ((j : Int) + 1) = j + 1 := by rw [IntKind.wrap_i64]; omega
      by_cases hlast : j + 1 < es.length
      · obtain ⟨y, hy⟩ : ∃ y, es[j + 1]? = some y := ⟨es[j + 1], List.getElem?_eq_getElem hlast⟩
        have hh := holds_at (e := e) hy
        have hlz : decide ((j : Int) + 1 < es.length) = true := decide_eq_true (by omega)
        have hlz2 : (j : Int) + 1 < es.length := by omega
        have hxy := hx2 y hy
        clear hx hy hx2
        obtain ⟨xd, xn, xa, xt, xp⟩ := e
        obtain ⟨yd, yn, ya, yt, yp⟩ := y
        simp only at q0 q1 q2 q3 q4 cS HB HPut hxy hh hdz hdw hd1 hd2
        go_wp2_with (go_at_call 51; refine cS.mono ?_; rintro _ w2 ⟨rfl, v2, n2, k2, p2⟩; obtain ⟨hX, k9⟩ := HB.out _ _ w2 k2; obtain ⟨m0, m1, m2, m3, m4⟩ := elB_all hX; have y0 := hxy w2 (HE.out _ _ w2 k9))
        have hcP := fun n => HPut.out (holdsB ⟨xd, xn, xa, xt, xp⟩ (es.drop (j + 1))) v2 n2 (w2.drewN n) rfl (k2.drewN n) (p2.drewN n)
        rw [hh] at hcP
        clear HB HPut hxy HE cS
        by_cases hgt : xd < yd
        · have z1 : decide (xd < yd) = true := decide_eq_true hgt
          rw [z1] at hcP
          try simp only at m0 m1 m2 m3 m4
          go_quiet (fail)
          go_wp2_with (go_at_call 52; refine (hcP _).mono ?_; rintro _ w3 ⟨rfl, v3, n3, t3, s3, k3, p3, hs3, hq3⟩)
          go_roundw
          case rel => exact ⟨j + 1, v3, n3, t3, s3, by omega, by go_num, k3, p3, hs3, hq3, trivial, trivial⟩
          case measure => simp [RowKit.intOf]; omega
        · have z1 : decide (xd < yd) = false := decide_eq_false hgt
          rw [z1] at hcP
          try simp only at m0 m1 m2 m3 m4
          go_quiet (fail)
          go_wp2_with (go_at_call 52; refine (hcP _).mono ?_; rintro _ w3 ⟨rfl, v3, n3, t3, s3, k3, p3, hs3, hq3⟩)
          go_roundw
          case rel => exact ⟨j + 1, v3, n3, t3, s3, by omega, by go_num, k3, p3, hs3, hq3, trivial, trivial⟩
          case measure => simp [RowKit.intOf]; omega
      · have hh := holds_end (e := e) (show es.length ≤ j + 1 by omega)
        have hlz : decide ((j : Int) + 1 < es.length) = false := decide_eq_false (by omega)
        have hlz2 : ¬ (j : Int) + 1 < es.length := by omega
        clear hx hx2
        obtain ⟨xd, xn, xa, xt, xp⟩ := e
        simp only at q0 q1 q2 q3 q4 cS HB HPut hh hdz hdw hd1 hd2
        go_wp2_with (go_at_call 51; refine cS.mono ?_; rintro _ w2 ⟨rfl, v2, n2, k2, p2⟩; obtain ⟨hX, k9⟩ := HB.out _ _ w2 k2; obtain ⟨m0, m1, m2, m3, m4⟩ := elB_all hX)
        have hcP := fun n => HPut.out (holdsB ⟨xd, xn, xa, xt, xp⟩ (es.drop (j + 1))) v2 n2 (w2.drewN n) rfl (k2.drewN n) (p2.drewN n)
        rw [hh] at hcP
        clear HB HPut HE cS
        try simp only at m0 m1 m2 m3 m4
        go_quiet (fail)
        go_wp2_with (go_at_call 52; refine (hcP _).mono ?_; rintro _ w3 ⟨rfl, v3, n3, t3, s3, k3, p3, hs3, hq3⟩)
        go_roundw
        case rel => exact ⟨j + 1, v3, n3, t3, s3, by omega, by go_num, k3, p3, hs3, hq3, trivial, trivial⟩
        case measure => simp [RowKit.intOf]; omega
    · obtain rfl : j = es.length := by omega
      have hq2 := hq.out
      rw [List.drop_length, pcsF] at hq2
      have cS := shutTo_any w.heap.size (w.heap.size + 1) 0 v1 n1 t1 s1 _ p1 (by omega)
      rw [hq2] at cS
      have HK : Hid (∀ v n W, Pk w.heap.size v1 n1 v n wr W → Below w.heap.size w W) := Hid.mkP fun v n W h => (HBl.out v n W (k1.trans h)).1
      clear HP hq hq2 HBl hmem p1 k1
      go_wp2_with (go_at_call 51; refine cS.mono ?_; rintro _ w2 ⟨rfl, v2, n2, k2, p2⟩; have e0 := p2.c0)
      go_ret
      exact ⟨v2, rfl, p2.own0, HK.out _ _ _ k2⟩
end Go.Proofs.YtchfphakhmifmaaGreatDoor

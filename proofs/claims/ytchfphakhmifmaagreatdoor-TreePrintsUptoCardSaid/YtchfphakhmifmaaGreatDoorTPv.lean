/- The document's printed: the walk. -/
import Derived.Test.YtchfphakhmifmaaGreatDoorTPt
namespace Go.Proofs.YtchfphakhmifmaaGreatDoor
open Go.ChangeShapes Go.WideShapes Go.ChangeAt Go.RowKit Go.Lib

theorem elB_cells {W : World} {X : Nat} {e : El} {v : Value} (h : W.heap[X]? = some (elB e v)) : W.cell? ⟨X, 1, none⟩ = some (.string e.nm) ∧ W.cell? ⟨X, 2, none⟩ = some v ∧ W.cell? ⟨X, 3, none⟩ = some (.string e.tx) := by
  refine ⟨?_, ?_, ?_⟩ <;> (simp only [World.cell?, h]; rfl)
theorem Hid.mkV {p : Prop} (h : p) : Hid p := h
theorem esc_back (attr : Bool) (v : ByteArray) : lOf (sOf (escL attr (lOf v))) = escL attr (lOf v) := lOf_sOf _ fun b hb => (esc_clean attr (lOf v) (lOf_lt v) b hb).1
/-- The tail of an element's text. -/
def tailL (f : Nat) (x : El) (r : List El) : List Nat := if kidsS x.d r = [] ∧ x.tx.size = 0 then [47, 62] else 62 :: (escL false (lOf x.tx) ++ ((kidsS x.d r).flatMap (prtS f) ++ 60 :: 47 :: (lOf x.nm ++ [62])))
theorem prtS_succ (f : Nat) (x : El) (r : List El) : prtS (f + 1) (x :: r) = [60] ++ lOf x.nm ++ x.ats.flatMap attL ++ tailL f x r := by
  rw [prtS]
  unfold tailL
  simp only [List.append_assoc, List.cons_append, List.nil_append]
structure PIn (es : List El) : Prop where
  n : es.length ≤ 1048576
  d : ∀ e ∈ es, 1 ≤ e.d ∧ e.d ≤ 16
  s : ∀ e ∈ es, e.nm.size ≤ 16777216 ∧ e.tx.size ≤ 16777216 ∧ e.ats.length ≤ 1048576 ∧ ∀ a ∈ e.ats, a.nm.size ≤ 16777216 ∧ a.vl.size ≤ 16777216
abbrev M0 : Nat := 140737488355328
/-- printed, with so many Depths to come. -/
def PrtAll (es : List El) (pp : Option Addr) (cp f : Nat) : Prop := ∀ (i : Nat) (x : El) (B : Nat) (v : Value) (L : List Nat) (w : World), es[i]? = some x → 17 ≤ (f : Int) + x.d → Buf w B v L → B ≤ w.heap.size → ERow w pp B es → L.length + (prtS f (es.drop i)).length ≤ 140737488355328 →
    Calls Tryz.prog 26 #[v, .slice pp es.length cp, .int .i64 (i : Int)] w fun e w' => ∃ v', e = .returned v' ∧ Buf w' B v' (L ++ prtS f (es.drop i)) ∧ Bk v v' w w'
set_option linter.unusedSimpArgs false in
set_option maxRecDepth 100000 in
set_option maxHeartbeats 16000000 in
theorem printed_step (es : List El) (pp : Option Addr) (cp : Nat) (hI : PIn es) (f : Nat) (IH : Hid (PrtAll es pp cp f)) : PrtAll es pp cp (f + 1) := by
    intro i x B v L w hx hf hv hB hE hl
    obtain ⟨hil, -⟩ := List.getElem?_eq_some_iff.1 hx
    rw [drop_at hx, prtS_succ] at hl ⊢
    have hxs := hI.s x (List.mem_of_getElem? hx)
    have hxd := hI.d x (List.mem_of_getElem? hx)
    obtain ⟨g, o, pa, ca, rfl, hg, q0, q1, q2, q3, q4, hA⟩ := hE.c i x hx
    have hkid : kidsN es (i : Int) = kidsG x.d (es.drop (i + 1)) (i + 1) := kidsN_at hx
    have hmap := kids_map es x.d (es.drop (i + 1)) (i + 1) rfl
    rw [← hkid] at hmap
    have hat : ∀ n ∈ kidsN es (i : Int), ∃ y, es[n]? = some y ∧ y.d = x.d + 1 := by rw [hkid]; exact kids_at es x.d _ (i + 1) rfl
    have hkl := kidsN_length es (i : Int)
    have hIn := hI.n
    have hfl : (kidsS x.d (es.drop (i + 1))).flatMap (prtS f) = (kidsN es (i : Int)).flatMap (fun n => prtS f (es.drop n)) := by rw [← hmap, List.flatMap_map]
    have hnil : kidsS x.d (es.drop (i + 1)) = [] ↔ kidsN es (i : Int) = [] := by rw [← hmap]; simp
    simp only [List.length_append, List.length_cons, List.length_nil, lOf_length] at hl
    have hili : (i : Int) < es.length := by omega
    -- the element, beside
    have hb0 := bel1 w (elB x (.slice pa x.ats.length ca))
    have hN := heap_new w (elB x (.slice pa x.ats.length ca))
    have hvl : ∀ k, v.ownBlock = some k → k < w.heap.size := fun k hk => (ownLt hv hk).2
    have HB0 : Hid (∀ v' W, Bk v v' (w.alloc (elB x (.slice pa x.ats.length ca))) W → Below B w W ∧ Bk v v' w W ∧ W.heap[w.heap.size]? = some (elB x (.slice pa x.ats.length ca)) ∧ B ≤ W.heap.size) := Hid.mkV fun v' W h =>
      ⟨((Bk.of hb0).trans h).below hv hB, (Bk.of hb0).trans h, (h.block w.heap.size (by rw [World.size_alloc]; omega) fun e => by have := hvl _ e; omega).trans hN, Nat.le_trans hB ((Bk.of hb0).trans h).size⟩
    have u0 := hv.below hb0
    have hB0 := Nat.le_trans hB hb0.size
    generalize hW0 : w.alloc (elB x (.slice pa x.ats.length ca)) = W0 at *
    obtain ⟨v1, w1, r1, u1, k1⟩ := bkLit1 u0 60 60 rfl (by omega) hB0
    obtain ⟨s1, -, b1, B1⟩ := HB0.out v1 w1 k1
    obtain ⟨n1, n2, n3⟩ := elB_cells b1
    obtain ⟨v2, w2, r2, u2, k2⟩ := bkStr u1 x.nm (by simp only [List.length_append, List.length_cons, List.length_nil, lOf_length]; omega) B1
    have k2' := k1.trans k2
    have HE : Hid (∀ v' W, Bk v v' W0 W → ERow W (some ⟨g, o, none⟩) B es ∧ ARow W pa B x.ats) := Hid.mkV fun v' W h => ⟨hE.below (HB0.out v' W h).1, hA.below (HB0.out v' W h).1⟩
    have HV : Hid (Buf w B v L ∧ B ≤ w.heap.size) := Hid.mkV ⟨hv, hB⟩
    clear hN hvl hmap hkid k1 k2 u1 u0 hE hA b1 s1 B1
    have hl2 : L.length + (1 + x.nm.size + (x.ats.flatMap attL).length + (tailL f x (es.drop (i + 1))).length) ≤ 140737488355328 := by omega
    obtain ⟨hx1, hx2, hx3, hx4⟩ := hxs
    have F1 : True := trivial
    have F2 : True := trivial
    go_enter Tryz.func26, Tryz.ntmps26
    go_wp2_with (first | (at_builtin; clear F1; go_must (refine (wpList_append_ex (by rfl) _ _ _ _ (by rfl) _ _ (by rfl) (by rfl) (fun a b => a = v1 ∧ b = w1) ⟨v1, w1, r1, rfl, rfl⟩ ?_)); rintro _ _ ⟨rfl, rfl⟩) | (at_builtin; clear F2; go_must (refine (wpList_append_ex (by rfl) _ _ _ _ (by rfl) _ _ (by rfl) (by rfl) (fun a b => a = v2 ∧ b = w2) ⟨v2, w2, r2, rfl, rfl⟩ ?_)); rintro _ _ ⟨rfl, rfl⟩))
    clear r1 r2 n1 n2 n3 hW0 hb0 q0 q1 q2 q3 q4
    go_loopw [0, 8] (fun b n wr => ∃ (j : Nat) (vj : Value), j ≤ x.ats.length ∧ n = .int .i64 j ∧ b = vj ∧ Buf wr B vj (L ++ [60] ++ lOf x.nm ++ (x.ats.take j).flatMap attL) ∧ Bk v vj W0 wr) (fun _ n _ => x.ats.length - (RowKit.intOf n).toNat)
    case atStart => exact ⟨0, _, Nat.zero_le _, rfl, rfl, by simpa using u2, k2'⟩
    case round =>
      obtain ⟨j, vj, hj, rfl, rfl, hu, hk⟩ := hrel
      obtain ⟨s3, t3, b3, B3⟩ := HB0.out _ wr hk
      obtain ⟨m1, m2, m3⟩ := elB_cells b3
      by_cases hlt : j < x.ats.length
      · obtain ⟨a, hxa⟩ : ∃ a, x.ats[j]? = some a := ⟨x.ats[j], List.getElem?_eq_getElem hlt⟩
        obtain ⟨ha1, ha2⟩ := hx4 a (List.mem_of_getElem? hxa)
        obtain ⟨ga, oa, rfl, hga, p0, p1, p2⟩ := ((HE.out _ wr hk).2).c j a hxa
        have hlti : (j : Int) < x.ats.length := by omega
        have hpart := flat_part attL x.ats j a hxa
        have hstep := flat_step attL hxa
        have hal : (attL a).length = 4 + a.nm.size + (escL true (lOf a.vl)).length := by unfold attL; simp only [List.length_append, List.length_cons, List.length_nil, lOf_length]; omega
        have cE := rEscape a.vl true wr (by omega)
        go_wp2_with fail
        refine cE.mono ?_
        rintro _ wE ⟨rfl, hbE⟩
        have hkE := hk.trans (Bk.of (v := u0) hbE)
        have e0 := hu.below hbE
        obtain ⟨-, -, -, BE⟩ := HB0.out _ wE hkE
        obtain ⟨va, wa, ra, ua, ka⟩ := bkLit1 e0 32 32 rfl (by simp only [List.length_append, List.length_cons, List.length_nil, lOf_length]; omega) BE
        obtain ⟨-, -, ba, Ba⟩ := HB0.out _ wa (hkE.trans ka)
        obtain ⟨x1, x2, x3⟩ := elB_cells ba
        obtain ⟨ga', oa', ea', hga', p0', p1', p2'⟩ := ((HE.out _ wa (hkE.trans ka)).2).c j a hxa
        cases ea'
        obtain ⟨vb, wb, rb, ub, kb⟩ := bkStr ua a.nm (by simp only [List.length_append, List.length_cons, List.length_nil, lOf_length]; omega) Ba
        obtain ⟨-, -, -, Bb⟩ := HB0.out _ wb ((hkE.trans ka).trans kb)
        obtain ⟨vc, wc, rc, uc, kc⟩ := bkLit2 ub 61 34 61 34 rfl rfl (by simp only [List.length_append, List.length_cons, List.length_nil, lOf_length]; omega) Bb
        obtain ⟨-, -, -, Bc⟩ := HB0.out _ wc (((hkE.trans ka).trans kb).trans kc)
        obtain ⟨vd, wd, rd, ud, kd⟩ := bkStr uc (sOf (escL true (lOf a.vl))) (by simp only [List.length_append, List.length_cons, List.length_nil, lOf_length]; rw [sOf_size]; omega) Bc
        obtain ⟨-, -, -, Bd⟩ := HB0.out _ wd ((((hkE.trans ka).trans kb).trans kc).trans kd)
        obtain ⟨ve, we, re, ue, ke⟩ := bkLit1 ud 34 34 rfl (by simp only [List.length_append, List.length_cons, List.length_nil, lOf_length]; rw [sOf_size]; omega) Bd
        have kF := ((((hkE.trans ka).trans kb).trans kc).trans kd).trans ke
        have uF : Buf we B ve (L ++ [60] ++ lOf x.nm ++ (x.ats.take (j + 1)).flatMap attL) := by
          rw [esc_back] at ue
          rw [hstep]
          unfold attL at ue ⊢
          simpa only [List.append_assoc, List.cons_append, List.nil_append] using ue
        clear hu hk hkE e0 ua ub uc ud ue ka kb kc kd ke cE hstep hpart hal BE Ba Bb Bc Bd b3 ba m1 m2 m3 p0 p1 p2
        have F1 : True := trivial
        have F2 : True := trivial
        have F3 : True := trivial
        have F4 : True := trivial
        have F5 : True := trivial
        go_wp2_with (first | (at_builtin; clear F1; go_must (refine (wpList_append_ex (by rfl) _ _ _ _ (by rfl) _ _ (by rfl) (by rfl) (fun a b => a = va ∧ b = wa) ⟨va, wa, ra, rfl, rfl⟩ ?_)); rintro _ _ ⟨rfl, rfl⟩) | (at_builtin; clear F2; go_must (refine (wpList_append_ex (by rfl) _ _ _ _ (by rfl) _ _ (by rfl) (by rfl) (fun a b => a = vb ∧ b = wb) ⟨vb, wb, rb, rfl, rfl⟩ ?_)); rintro _ _ ⟨rfl, rfl⟩) | (at_builtin; clear F3; go_must (refine (wpList_append_ex (by rfl) _ _ _ _ (by rfl) _ _ (by rfl) (by rfl) (fun a b => a = vc ∧ b = wc) ⟨vc, wc, rc, rfl, rfl⟩ ?_)); rintro _ _ ⟨rfl, rfl⟩) | (at_builtin; clear F4; go_must (refine (wpList_append_ex (by rfl) _ _ _ _ (by rfl) _ _ (by rfl) (by rfl) (fun a b => a = vd ∧ b = wd) ⟨vd, wd, rd, rfl, rfl⟩ ?_)); rintro _ _ ⟨rfl, rfl⟩) | (at_builtin; clear F5; go_must (refine (wpList_append_ex (by rfl) _ _ _ _ (by rfl) _ _ (by rfl) (by rfl) (fun a b => a = ve ∧ b = we) ⟨ve, we, re, rfl, rfl⟩ ?_)); rintro _ _ ⟨rfl, rfl⟩))
        go_roundw
        case rel => exact ⟨j + 1, _, by omega, by go_num, rfl, uF, kF⟩
        case measure => simp [RowKit.intOf]; omega
      · obtain rfl : j = x.ats.length := by omega
        rw [List.take_length] at hu
        have hlt2 : ¬ ((x.ats.length : Int) < x.ats.length) := by omega
        have cK := refKids_any (some ⟨g, o, none⟩) cp es (i : Int) wr (((HE.out _ wr hk).1).mono B3) (by have := hI.n; omega) (fun e he => by have := hI.d e he; omega) (by have := hI.n; omega)
        generalize hns : kidsN es (i : Int) = ns at *
        go_wp2_with fail
        refine cK.mono ?_
        rintro _ wK ⟨vk, rfl, hNR, hbK⟩
        clear cK
        have huK := hu.below hbK
        have hkK := hk.trans (Bk.of (v := u0) hbK)
        have hul : ∀ k, u0.ownBlock = some k → k < wr.heap.size := fun k e => (ownLt hu e).2
        obtain ⟨-, -, bK, BK⟩ := HB0.out _ wK hkK
        obtain ⟨c1, c2, c3⟩ := elB_cells bK
        obtain ⟨pk, ck, hvk, hcells⟩ := hNR.shape
        subst hvk
        have HKd : Hid (∀ v' W, Bk u0 v' wK W → ∀ (idx n : Nat), ns[idx]? = some n → ∃ gk, pk = some ⟨gk, 0, none⟩ ∧ W.cell? ⟨gk, idx, none⟩ = some (.int .i64 (n : Int))) := Hid.mkV fun v' W h idx n hn => by
          obtain ⟨gk, rfl, hgk, hcell⟩ := hcells idx n hn
          have hge := (ownLt hNR (k := gk) rfl).1
          have hh := h.block gk hgk (fun e => by have := hul gk e; omega)
          exact ⟨gk, rfl, by rw [← hcell]; simp only [World.cell?, hh]⟩
        clear hcells hNR hul hbK hu hk b3 m1 m2 m3 s3 t3 B3 bK
        by_cases hleaf : ns = [] ∧ x.tx.size = 0
        · have hkS : kidsS x.d (es.drop (i + 1)) = [] := hnil.2 hleaf.1
          have htl : tailL f x (es.drop (i + 1)) = [47, 62] := by unfold tailL; rw [if_pos ⟨hkS, hleaf.2⟩]
          have hn0 : ns.length = 0 := by rw [hleaf.1]; rfl
          have hn0i : (ns.length : Int) = 0 := by omega
          have htx : x.tx = ⟨#[]⟩ := size_zero hleaf.2
          rw [htx] at c3
          rw [htl] at hl2
          obtain ⟨va, wa, ra, ua, ka⟩ := bkLit2 huK 47 62 47 62 rfl rfl (by simp only [List.length_append, List.length_cons, List.length_nil, lOf_length]; simp only [List.length_cons, List.length_nil] at hl2; omega) BK
          have kF := (HB0.out _ wa (hkK.trans ka)).2.1
          have HZ : Hid (Buf wa B va (L ++ ([60] ++ lOf x.nm ++ x.ats.flatMap attL ++ tailL f x (es.drop (i + 1))))) := Hid.mkV (by rw [htl]; simpa only [List.append_assoc] using ua)
          clear hleaf hkS htl huK hkK ua ka htx HKd hfl hnil hat HE hl2 hl
          have F1 : True := trivial
          go_wp2_with (first | (at_builtin; clear F1; go_must (refine (wpList_append_ex (by rfl) _ _ _ _ (by rfl) _ _ (by rfl) (by rfl) (fun a b => a = va ∧ b = wa) ⟨va, wa, ra, rfl, rfl⟩ ?_)); rintro _ _ ⟨rfl, rfl⟩))
          go_ret
          first | exact ⟨_, rfl, HZ.out, kF⟩ | exact ⟨_, rfl, HZ2.out, kF⟩
        · have hkS : ¬ (kidsS x.d (es.drop (i + 1)) = [] ∧ x.tx.size = 0) := fun h => hleaf ⟨hnil.1 h.1, h.2⟩
          have htl : tailL f x (es.drop (i + 1)) = 62 :: (escL false (lOf x.tx) ++ (ns.flatMap (fun n => prtS f (es.drop n)) ++ 60 :: 47 :: (lOf x.nm ++ [62]))) := by unfold tailL; rw [if_neg hkS, hfl]
          have htll : (tailL f x (es.drop (i + 1))).length = 4 + (escL false (lOf x.tx)).length + (ns.flatMap (fun n => prtS f (es.drop n))).length + x.nm.size := by rw [htl]; simp only [List.length_append, List.length_cons, List.length_nil, lOf_length]; omega
          rw [htll] at hl2
          have hc : ((ns.length : Int) == 0) = false ∨ ((ns.length : Int) = 0 ∧ (x.tx.toList == []) = false) := by
            by_cases h : ns = []
            · exact .inr ⟨by rw [h]; rfl, lst_ne x.tx (by have : ¬ x.tx.size = 0 := fun h2 => hleaf ⟨h, h2⟩; omega)⟩
            · have := List.length_pos_iff.2 h
              exact .inl (beq_eq_false_iff_ne.2 (by omega))
          obtain ⟨va, wa, ra, ua, ka⟩ := bkLit1 huK 62 62 rfl (by simp only [List.length_append, List.length_cons, List.length_nil, lOf_length]; omega) BK
          obtain ⟨-, -, ba, Ba⟩ := HB0.out _ wa (hkK.trans ka)
          obtain ⟨d1, d2, d3⟩ := elB_cells ba
          have cE := rEscape x.tx false wa (by omega)
          have HT : Hid (tailL f x (es.drop (i + 1)) = 62 :: (escL false (lOf x.tx) ++ (ns.flatMap (fun n => prtS f (es.drop n)) ++ 60 :: 47 :: (lOf x.nm ++ [62])))) := Hid.mkV htl
          have hat' : Hid (∀ n ∈ ns, ∃ y, es[n]? = some y ∧ y.d = x.d + 1) := Hid.mkV hat
          clear hleaf hkS htl htll hfl hnil hat huK ba hl
          rcases hc with hc | ⟨hc, hc2⟩
          all_goals
            have F1 : True := trivial
            go_wp2_with (first | (at_builtin; clear F1; go_must (refine (wpList_append_ex (by rfl) _ _ _ _ (by rfl) _ _ (by rfl) (by rfl) (fun a b => a = va ∧ b = wa) ⟨va, wa, ra, rfl, rfl⟩ ?_)); rintro _ _ ⟨rfl, rfl⟩))
            refine cE.mono ?_
            rintro _ wE ⟨rfl, hbE⟩
            have e0 := ua.below hbE
            have kE := ka.trans (Bk.of hbE)
            obtain ⟨-, -, -, BE⟩ := HB0.out _ wE (hkK.trans kE)
            obtain ⟨vb, wb, rb, ub, kb⟩ := bkStr e0 (sOf (escL false (lOf x.tx))) (by simp only [List.length_append, List.length_cons, List.length_nil, lOf_length]; rw [sOf_size]; omega) BE
            have kB := kE.trans kb
            have F1 : True := trivial
            clear ra ka ua kE e0 kb BE Ba d1 d2 d3 cE hbE c1 c2 c3
            go_wp2_with (first | (at_builtin; clear F1; go_must (refine (wpList_append_ex (by rfl) _ _ _ _ (by rfl) _ _ (by rfl) (by rfl) (fun a b => a = vb ∧ b = wb) ⟨vb, wb, rb, rfl, rfl⟩ ?_)); rintro _ _ ⟨rfl, rfl⟩))
            clear rb hc
            try clear hc2
            rw [esc_back] at ub
            go_loopw [0, 12] (fun b n wr => ∃ (j : Nat) (vj : Value), j ≤ ns.length ∧ n = .int .i64 j ∧ b = vj ∧ Buf wr B vj (L ++ [60] ++ lOf x.nm ++ x.ats.flatMap attL ++ [62] ++ escL false (lOf x.tx) ++ (ns.take j).flatMap (fun n => prtS f (es.drop n))) ∧ Bk u0 vj wK wr) (fun _ n _ => ns.length - (RowKit.intOf n).toNat)
            case atStart => exact ⟨0, _, Nat.zero_le _, rfl, rfl, by simpa using ub, kB⟩
            case round =>
              rename World => w6
              obtain ⟨j, vj, hj2, rfl, rfl, hu2, hk2⟩ := hrel
              obtain ⟨s6, t6, b6, B6⟩ := HB0.out _ w6 (hkK.trans hk2)
              by_cases hlt3 : j < ns.length
              · obtain ⟨n, hn⟩ : ∃ n, ns[j]? = some n := ⟨ns[j], List.getElem?_eq_getElem hlt3⟩
                obtain ⟨gk, rfl, hcell⟩ := HKd.out _ w6 hk2 j n hn
                obtain ⟨y, hy, hyd⟩ := hat'.out n (List.mem_of_getElem? hn)
                have hpart := flat_part (fun n => prtS f (es.drop n)) ns j n hn
                have hstep := flat_step (fun n => prtS f (es.drop n)) hn
                have hrec := IH.out n y B _ _ w6 hy (by omega) hu2 B6 (HE.out _ w6 (hkK.trans hk2)).1 (by simp only [List.length_append, List.length_cons, List.length_nil, lOf_length]; omega)
                have hlt4 : (j : Int) < ns.length := by omega
                rw [List.append_assoc, ← hstep] at hrec
                clear hpart hstep hu2 hn hy s6 t6 b6 B6
                go_wp2_with fail
                refine hrec.mono ?_
                rintro _ w7 ⟨v7, rfl, u7, k7⟩
                go_wp2_with fail
                go_roundw
                case rel => exact ⟨j + 1, _, by omega, by go_num, rfl, u7, hk2.trans k7⟩
                case measure => simp [RowKit.intOf]; omega
              · obtain rfl : j = ns.length := by omega
                rw [List.take_length] at hu2
                have hlt4 : ¬ ((ns.length : Int) < ns.length) := by omega
                obtain ⟨vc, wc, rc, uc, kc⟩ := bkLit2 hu2 60 47 60 47 rfl rfl (by simp only [List.length_append, List.length_cons, List.length_nil, lOf_length]; omega) B6
                obtain ⟨-, -, bc, Bc⟩ := HB0.out _ wc ((hkK.trans hk2).trans kc)
                obtain ⟨y1, y2, y3⟩ := elB_cells bc
                obtain ⟨vd, wd, rd, ud, kd⟩ := bkStr uc x.nm (by simp only [List.length_append, List.length_cons, List.length_nil, lOf_length]; omega) Bc
                obtain ⟨-, -, -, Bd⟩ := HB0.out _ wd (((hkK.trans hk2).trans kc).trans kd)
                obtain ⟨ve, we, re, ue, ke⟩ := bkLit1 ud 62 62 rfl (by simp only [List.length_append, List.length_cons, List.length_nil, lOf_length]; omega) Bd
                have kF := (HB0.out _ we ((((hkK.trans hk2).trans kc).trans kd).trans ke)).2.1
                have HZ : Hid (Buf we B ve (L ++ ([60] ++ lOf x.nm ++ x.ats.flatMap attL ++ tailL f x (es.drop (i + 1))))) := Hid.mkV (by
                  rw [HT.out]
                  simpa only [List.append_assoc, List.cons_append, List.nil_append] using ue)
                have HZ2 : Hid (Buf we B ve (L ++ 60 :: (lOf x.nm ++ (x.ats.flatMap attL ++ tailL f x (es.drop (i + 1)))))) := Hid.mkV (by
                  simpa only [List.append_assoc, List.cons_append, List.nil_append] using HZ.out)
                clear hu2 hk2 uc ud ue kc kd ke s6 t6 b6 B6 bc Bc Bd hkK HKd HT hat'
                have F1 : True := trivial
                have F2 : True := trivial
                have F3 : True := trivial
                go_wp2_with (first | (at_builtin; clear F1; go_must (refine (wpList_append_ex (by rfl) _ _ _ _ (by rfl) _ _ (by rfl) (by rfl) (fun a b => a = vc ∧ b = wc) ⟨vc, wc, rc, rfl, rfl⟩ ?_)); rintro _ _ ⟨rfl, rfl⟩) | (at_builtin; clear F2; go_must (refine (wpList_append_ex (by rfl) _ _ _ _ (by rfl) _ _ (by rfl) (by rfl) (fun a b => a = vd ∧ b = wd) ⟨vd, wd, rd, rfl, rfl⟩ ?_)); rintro _ _ ⟨rfl, rfl⟩) | (at_builtin; clear F3; go_must (refine (wpList_append_ex (by rfl) _ _ _ _ (by rfl) _ _ (by rfl) (by rfl) (fun a b => a = ve ∧ b = we) ⟨ve, we, re, rfl, rfl⟩ ?_)); rintro _ _ ⟨rfl, rfl⟩))
                go_ret
                first | exact ⟨_, rfl, HZ.out, kF⟩ | exact ⟨_, rfl, HZ2.out, kF⟩
theorem printed_any (es : List El) (pp : Option Addr) (cp : Nat) (hI : PIn es) : ∀ f, PrtAll es pp cp f
  | 0 => fun i x B v L w hx hf _ _ _ _ => by
    have := (hI.d x (List.mem_of_getElem? hx)).2
    exact absurd hf (by omega)
  | f + 1 => printed_step es pp cp hI f (Hid.mkV (printed_any es pp cp hI f))
end Go.Proofs.YtchfphakhmifmaaGreatDoor

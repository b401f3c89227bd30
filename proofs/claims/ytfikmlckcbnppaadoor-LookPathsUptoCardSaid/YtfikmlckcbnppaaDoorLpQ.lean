/- Package look's reader: path, walked. -/
import Derived.Test.YtfikmlckcbnppaaDoorLpP
namespace Go.Proofs.YtfikmlckcbnppaaDoor
open Go.ChangeShapes Go.WideShapes Go.ChangeAt Go.RowKit Go.Shelf Go.Maps

/-- Behind a step that ended at b. -/
structure Pa (w : World) (R : Nat) (s : ByteArray) (k b : Nat) (l : List (ByteArray × Int)) (v : Value) (W : World) : Prop where
  kk : s.size - b + 1 ≤ k
  bs : b ≤ s.size
  ll : l.length ≤ b
  e : pathZ s = conP s k b l
  rd : Rd w R s b W
  st : StR W w.heap.size v l
theorem StR.call {w W W' : World} {R : Nat} {s : ByteArray} {c : Nat} {v : Value} {l : List (ByteArray × Int)} (h : StR W w.heap.size v l) (hR : R < w.heap.size) (k : Rd W R s c W') : StR W' w.heap.size v l :=
  own_stay h fun g hg => k.mv.but.block g (World.ownsRow.lt h g hg).2 (by have := (World.ownsRow.lt h g hg).1; omega)
/-- The first step. -/
theorem Pa.first {w w1 : World} {R : Nat} {s : ByteArray} {b : Nat} {x : ByteArray × Int} (h0 : s.size ≠ 0) (hst : stP s 0 = (some x, b)) (h : Rd w R s b w1) : Pa w R s s.size b [x] (.slice (some ⟨w1.heap.size, 0, none⟩) 1 1) (w1.alloc (spO x)) := by
  obtain ⟨g1, g2, g3⟩ := stP_ge (s := s) (a := 0) (Nat.zero_le _)
  rw [hst] at g1 g2 g3
  have g4 : 0 < b := g3 (by simp)
  replace g2 : b ≤ s.size := g2
  refine ⟨by omega, g2, by show 1 ≤ b; omega, ?_, h.below (bel1 _ _), by rfl, .inr ⟨w1.heap.size, 1, spC x, rfl, h.mv.but.size, heap_al _ _, Nat.le_refl _, by decide, rfl, rfl⟩⟩
  unfold pathZ
  rw [if_neg h0, paP_some hst]
  rfl
/-- One more step. -/
theorem Pa.next {w W w2 : World} {R : Nat} {s : ByteArray} {k b c : Nat} {l : List (ByteArray × Int)} {v : Value} {x : ByteArray × Int} (hs : s.size ≤ 1048576) (h : Pa w R s k b l v W) (hR : R < w.heap.size) (hb : b < s.size) (h46 : ch s b = 46) (hst : stP s (b + 1) = (some x, c)) (h2 : Rd W R s c w2) : ∃ v' w', (∀ ty, (Builtin.append_ #[22, 22] ty #[v, .slice (some ⟨w2.heap.size, 0, none⟩) 1 1]).run Tryd.prog (w2.alloc (spO x)) = .ok v' w') ∧ ((∃ pv cv, v' = .slice pv (l ++ [x]).length cv) ∧ Hid (Pa w R s (k - 1) c (l ++ [x]) v' w' ∧ b < c)) := by
  obtain ⟨g1, g2, g3⟩ := stP_ge (s := s) (a := b + 1) (by omega)
  rw [hst] at g1 g2 g3
  have g4 : b + 1 < c := g3 (by simp)
  replace g2 : c ≤ s.size := g2
  have hll := h.ll
  have hbs := h.bs
  have hkk := h.kk
  have hr := h.rd.mv.but.size
  have h2s := h2.mv.but.size
  have hst2 := h.st.call hR h2
  obtain ⟨v', w', q1, q2, q3, q4, q5⟩ := ap_genP (W := w2) Tryd.underlying22 infoSpK rfl (by decide) hst2 [.string x.1, .int .i64 x.2] rfl (by simp [Value.oneCell']) (by omega) (by omega) (by omega)
  have hlen : (l ++ [x]).length = l.length + 1 := by simp
  have hq2 : StR w' w.heap.size v' (l ++ [x]) := by
    unfold StR
    rw [hlen, spL_snoc]
    exact q2
  obtain ⟨g, cc, e⟩ := own_slic q2 (by omega)
  have hrd := h.rd.from h2
  have hbR : w'.heap[R]? = w2.heap[R]? := q4 R h2.ra.lt fun e => by have := (World.ownsRow.lt hst2 R e).1; omega
  have hcl : ∀ o, w'.cell? ⟨R, o, none⟩ = w2.cell? ⟨R, o, none⟩ := fun o => by simp only [World.cell?, hbR]
  have hfz : ∀ o, w'.frozen? ⟨R, o, none⟩ = w2.frozen? ⟨R, o, none⟩ := fun o => by simp only [World.frozen?, hbR]
  refine ⟨v', w', q1, ⟨_, _, by rw [hlen]; exact e⟩, ⟨⟨by omega, g2, by rw [hlen]; omega, ?_, ?_, hq2⟩, by omega⟩⟩
  · rw [h.e]
    unfold conP
    rw [if_neg (by omega), if_pos h46]
    obtain ⟨k', rfl⟩ : ∃ k', k = k' + 1 := ⟨k - 1, by omega⟩
    rw [paP_some hst]
    rfl
  · exact ⟨⟨(hcl 0).trans hrd.ra.h0, (hcl 1).trans hrd.ra.h1, fun o => (hfz o).trans (hrd.ra.fz o), by have := q3.size; have := hrd.ra.lt; omega⟩, ⟨⟨q3.os.trans hrd.mv.but.os, q3.tape.trans hrd.mv.but.tape, q3.output.trans hrd.mv.but.output, by have := q3.size; have := hrd.mv.but.size; omega, fun j hj hj2 => (q3.block j hj).trans (hrd.mv.but.block j hj hj2)⟩, fun o ho => (hcl o).trans (hrd.mv.cell o ho), fun o => (hfz o).trans (hrd.mv.fz o)⟩⟩
/-- What path leaves. -/
def PaE (w : World) (R : Nat) (s : ByteArray) (o : Option (List (ByteArray × Int))) (b : Nat) (e : Ending) (w' : World) : Prop := (o = none ∧ e = .panicked [pvE] ∧ Rd w R s b w') ∨ (∃ l v c, o = some l ∧ e = .returned v ∧ StR w' w.heap.size v l ∧ Rd w R s c w')
set_option maxRecDepth 20000 in
set_option maxHeartbeats 4000000 in
theorem path_any (R : Nat) (s : ByteArray) (hs : s.size ≤ 1048576) (w : World) (h : RA w R s 0) {o : Option (List (ByteArray × Int))} {b0 : Nat} (hp : pathZ s = (o, b0)) : Calls Tryd.prog 18 #[.pointer (some ⟨R, 0, none⟩)] w fun e w' => PaE w R s o b0 e w' := by
  have hR := h.lt
  have k0 := h.h0
  by_cases h0 : s.size = 0
  · have e0 : (s.toList == []) = true := by rw [nempty]; simp [h0]
    have hF : Hid (PaE w R s o b0 (.returned (.slice none 0 0)) w) := ⟨.inr ⟨[], _, 0, by unfold pathZ at hp; rw [if_pos h0] at hp; injection hp with e1 _; exact e1.symm, rfl, World.ownsRow_nil _ _ _ 2, Rd.refl h⟩⟩
    clear h hp
    go_enter Tryd.func18, Tryd.ntmps18
    go_wp2_with fail
    go_ret
    exact hF.out
  · have e0 : (s.toList == []) = false := by rw [nempty]; simp [h0]
    obtain ⟨o1, b1, hst⟩ : ∃ o1 b1, stP s 0 = (o1, b1) := ⟨_, _, rfl⟩
    have cS := step_any R s 0 (by omega) (Nat.zero_le _) w h hst
    cases o1 with
    | none =>
      have hF : Hid (o = none ∧ b0 = b1) := ⟨by
        unfold pathZ at hp
        rw [if_neg h0, paP_none hst] at hp
        injection hp with e1 e2
        exact ⟨e1.symm, e2.symm⟩⟩
      have cS2 : Calls Tryd.prog 23 #[.pointer (some ⟨R, 0, none⟩)] w fun e w' => e = .panicked [pvE] ∧ Hid (PaE w R s o b0 (.panicked [pvE]) w') := cS.mono fun e w' ⟨h1, h2⟩ => by
        rcases h2 with ⟨-, h2⟩ | ⟨x, h2, -⟩
        · exact ⟨h2, ⟨.inl ⟨hF.out.1, rfl, by rw [hF.out.2]; exact h1⟩⟩⟩
        · cases h2
      clear cS h hp hF
      go_enter Tryd.func18, Tryd.ntmps18
      go_wp2_with (go_at_call 23; refine cS2.mono ?_; rintro _ w1 ⟨rfl, h1⟩)
      exact ⟨rfl, h1.out⟩
    | some x =>
      have cS2 : Calls Tryd.prog 23 #[.pointer (some ⟨R, 0, none⟩)] w fun e w1 => e = .returned (spV x) ∧ Hid (Pa w R s s.size b1 [x] (.slice (some ⟨w1.heap.size, 0, none⟩) 1 1) (w1.alloc (spO x))) := cS.mono fun e w' ⟨h1, h2⟩ => by
        rcases h2 with ⟨h2, -⟩ | ⟨y, h2, h3⟩
        · cases h2
        · cases h2
          exact ⟨h3, ⟨Pa.first h0 hst h1⟩⟩
      clear cS h hst
      go_enter Tryd.func18, Tryd.ntmps18
      go_wp2_with (go_at_call 23; refine cS2.mono ?_; rintro _ w1 ⟨rfl, h1⟩)
      clear cS2 k0 e0
      go_loopw [3] (fun q wr => ∃ (k b : Nat) (l : List (ByteArray × Int)) (pv : Option Addr) (cv : Nat), q = .slice pv l.length cv ∧ Hid (Pa w R s k b l (.slice pv l.length cv) wr)) (fun _ wr => s.size - plcR wr R)
      case atStart => exact ⟨_, _, [x], _, _, rfl, h1⟩
      case round =>
        clear h1
        obtain ⟨k, b, l, pv, cv, rfl, hI⟩ := hrel
        obtain ⟨p, p0, pN, pE, -, k0, k1⟩ := rd_class hI.out.rd
        have hM0 : Hid (plcR wr R = b) := ⟨plc_of hI.out.rd.ra.h1⟩
        have hD : Hid (Pa w R s k b l (.slice pv l.length cv) wr.drew) := ⟨⟨hI.out.kk, hI.out.bs, hI.out.ll, hI.out.e, hI.out.rd.drew, hI.out.st⟩⟩
        have hbs := hI.out.bs
        clear hI
        by_cases hlt : b < s.size
        · have d1 : decide ((b : Int) < (s.size : Int)) = true := decide_eq_true (by omega)
          have d1n : decide (b < s.size) = true := decide_eq_true hlt
          go_wp2_with fail
          refine wp_region_pp p [0, 1, 2, 3, 4, 5, 6, 7, 8, 9] (by kernel_rfl) (by kernel_rfl) (fun _ _ d _ _ h => by cases d <;> exact h) p0 ?_
          simp only [List.filterMap_cons, List.filterMap_nil, List.getElem?_cons_zero, List.getElem?_cons_succ]
          repeat (first
            | (refine lx_one rfl ?_; (first | go_big_quiet_skip | (go_big_quiet_want; go_big_quiet_op; go_big_quiet_on)); refine wpQuiet_nil ?_)
            | (refine lx_skip (by rfl) ?_; simp only [pts]))
          refine lx_done ?_
          clear k0 k1 pN pE
          by_cases h46 : ch s b = 46
          · obtain ⟨o2, c, hst⟩ : ∃ o2 c, stP s (b + 1) = (o2, c) := ⟨_, _, rfl⟩
            have cW := want_ok R s b 46 (by omega) ⟨hlt, h46⟩ wr.drew wr.drew (Rd.refl hD.out.rd.ra)
            cases o2 with
            | none =>
              have cT : Hid (∀ w2, Rd wr.drew R s (b + 1) w2 → Calls Tryd.prog 23 #[.pointer (some ⟨R, 0, none⟩)] w2 fun e w' => e = .panicked [pvE] ∧ Hid (PaE w R s o b0 (.panicked [pvE]) w')) := ⟨fun w2 h2 => (step_any R s (b + 1) (by omega) (by omega) w2 h2.ra hst).mono fun e w' ⟨h3, h4⟩ => by
                rcases h4 with ⟨-, h4⟩ | ⟨x, h4, -⟩
                · refine ⟨h4, ⟨.inl ?_⟩⟩
                  have hpp := hD.out.e
                  unfold conP at hpp
                  obtain ⟨k', rfl⟩ : ∃ k', k = k' + 1 := ⟨k - 1, by have := hD.out.kk; omega⟩
                  rw [if_neg (by omega), if_pos h46, paP_none hst, hp] at hpp
                  injection hpp with e1 e2
                  exact ⟨e1, rfl, by rw [e2]; exact (hD.out.rd.from h2).from h3⟩
                · cases h4⟩
              clear hD p0
              generalize wr.drew = W at *
              go_wp2_with (first
                | (go_at_call 24; refine cW.mono ?_; rintro _ w2 ⟨rfl, h2⟩; have cS := cT.out w2 h2; clear h2)
                | (go_at_call 23; refine cS.mono ?_; rintro _ w3 ⟨rfl, h3⟩))
              exact ⟨rfl, h3.out⟩
            | some y =>
              have cT : Hid (∀ w2, Rd wr.drew R s (b + 1) w2 → Calls Tryd.prog 23 #[.pointer (some ⟨R, 0, none⟩)] w2 fun e w3 => e = .returned (spV y) ∧ Hid (∃ v' w', (∀ ty, (Builtin.append_ #[22, 22] ty #[.slice pv l.length cv, .slice (some ⟨w3.heap.size, 0, none⟩) 1 1]).run Tryd.prog (w3.alloc (spO y)) = .ok v' w') ∧ ((∃ pv cv, v' = .slice pv (l ++ [y]).length cv) ∧ Hid (Pa w R s (k - 1) c (l ++ [y]) v' w' ∧ b < c)))) := ⟨fun w2 h2 => (step_any R s (b + 1) (by omega) (by omega) w2 h2.ra hst).mono fun e w' ⟨h3, h4⟩ => by
                rcases h4 with ⟨h4, -⟩ | ⟨x, h4, h5⟩
                · cases h4
                · cases h4
                  exact ⟨h5, ⟨Pa.next hs hD.out hR hlt h46 hst (h2.from h3)⟩⟩⟩
              clear hD p0 hst
              generalize wr.drew = W at *
              go_wp2_with (first
                | (go_at_call 24; refine cW.mono ?_; rintro _ w2 ⟨rfl, h2⟩; have cS := cT.out w2 h2; clear h2)
                | (go_at_call 23; refine cS.mono ?_; rintro _ w3 ⟨rfl, hap⟩)
                | (at_builtin; go_must (refine (ap_step (by rfl) _ _ _ _ (by rfl) _ _ (by rfl) (by rfl) _ hap.out ?_)); rintro v8 w8 ⟨⟨p8, c8, rfl⟩, hF⟩))
              have hM : Hid (plcR w8 R = c) := ⟨plc_of hF.out.1.rd.ra.h1⟩
              go_roundw
              case rel => exact ⟨k - 1, c, l ++ [y], p8, c8, by rw [List.length_append]; rfl, ⟨hF.out.1⟩⟩
              case measure => rw [hM.out, hM0.out]; have := hF.out.2; omega
          · have cW : Calls Tryd.prog 24 #[.pointer (some ⟨R, 0, none⟩), .int .u8 46] wr.drew fun e w' => e = .panicked [pvE] ∧ Hid (PaE w R s o b0 (.panicked [pvE]) w') := (want_no R s b 46 (fun hh => h46 hh.2) wr.drew wr.drew (Rd.refl hD.out.rd.ra)).mono fun e w' ⟨h3, h4⟩ => by
              refine ⟨h3, ⟨.inl ?_⟩⟩
              have hpp := hD.out.e
              unfold conP at hpp
              rw [if_neg (by omega), if_neg h46, hp] at hpp
              injection hpp with e1 e2
              exact ⟨e1, rfl, by rw [e2]; exact hD.out.rd.from h4⟩
            clear hD p0
            generalize wr.drew = W at *
            go_wp2_with (go_at_call 24; refine cW.mono ?_; rintro _ w2 ⟨rfl, h2⟩)
            exact ⟨rfl, h2.out⟩
        · have d1 : decide ((b : Int) < (s.size : Int)) = false := decide_eq_false (by omega)
          have d1n : decide (b < s.size) = false := decide_eq_false hlt
          have hF : Hid (PaE w R s o b0 (.returned (.slice pv l.length cv)) wr.drew) := ⟨.inr ⟨l, _, b, by
            have hpp := hD.out.e
            unfold conP at hpp
            rw [if_pos (by omega), hp] at hpp
            injection hpp with e1 e2, rfl, hD.out.st, hD.out.rd⟩⟩
          clear hD
          go_wp2_with fail
          refine wp_region_pp p [0, 1, 2, 3, 4, 5, 6, 7, 8, 9] (by kernel_rfl) (by kernel_rfl) (fun _ _ d _ _ h => by cases d <;> exact h) p0 ?_
          simp only [List.filterMap_cons, List.filterMap_nil, List.getElem?_cons_zero, List.getElem?_cons_succ]
          repeat (first
            | (refine lx_one rfl ?_; (first | go_big_quiet_skip | (go_big_quiet_want; go_big_quiet_op; go_big_quiet_on)); refine wpQuiet_nil ?_)
            | (refine lx_skip (by rfl) ?_; simp only [pts]))
          refine lx_done ?_
          clear k0 k1 pN pE p0
          go_wp2_with fail
          go_ret
          exact hF.out
end Go.Proofs.YtfikmlckcbnppaaDoor

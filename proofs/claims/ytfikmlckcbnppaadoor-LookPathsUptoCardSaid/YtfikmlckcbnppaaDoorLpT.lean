/- Package look's reader: step, walked. -/
import Derived.Test.YtfikmlckcbnppaaDoorLpS
namespace Go.Proofs.YtfikmlckcbnppaaDoor
open Go.ChangeShapes Go.WideShapes Go.ChangeAt Go.RowKit Go.Shelf

/-- What stands inside of step: the result in block w.heap.size, the step in block X. -/
structure Ss (w w0 : World) (R : Nat) (s : ByteArray) (X b : Nat) (x : ByteArray × Int) (W : World) : Prop where
  rd : Rd w0 R s b W
  rb : W.heap[w.heap.size]? = some zSp
  xb : W.heap[X]? = some (spO x)
  lt : R < w.heap.size ∧ w.heap.size < X
section
variable {w w0 : World} {R : Nat} {s : ByteArray} {X b : Nat} {x : ByteArray × Int} {W : World}
theorem Ss.call (h : Ss w w0 R s X b x W) {c : Nat} {W' : World} (k : Rd W R s c W') : Ss w w0 R s X c x W' :=
  ⟨h.rd.from k, (k.mv.but.block _ (Array.getElem?_eq_some_iff.1 h.rb).1 (by have := h.lt; omega)).trans h.rb, (k.mv.but.block _ (Array.getElem?_eq_some_iff.1 h.xb).1 (by have := h.lt; omega)).trans h.xb, h.lt⟩
theorem Ss.put (h : Ss w w0 R s X b x W) (z : Int) (c : Nat) (hz : z = (c : Int)) : Ss w w0 R s X c x (W.setCell ⟨R, 1, none⟩ (.int .i64 z)) :=
  ⟨h.rd.put z c hz, (set_off (by have := h.lt; omega)).trans h.rb, (set_off (by have := h.lt; omega)).trans h.xb, h.lt⟩
theorem Rd.set {c i : Nat} {v : Value} (h : Rd w0 R s b W) (hc : w0.heap.size ≤ c) (hR : R < w0.heap.size) : Rd w0 R s b (W.setCell ⟨c, i, none⟩ v) := by
  have hn : R ≠ c := by omega
  have hcl : ∀ o, (W.setCell ⟨c, i, none⟩ v).cell? ⟨R, o, none⟩ = W.cell? ⟨R, o, none⟩ := fun o => World.cell?_setCell_other W _ _ _ (fun e => hn (by injection e with e; exact e.symm))
  exact ⟨⟨(hcl 0).trans h.ra.h0, (hcl 1).trans h.ra.h1, fun o => by rw [World.frozen?_setCell]; exact h.ra.fz o, by simpa [World.setCell] using h.ra.lt⟩, ⟨⟨h.mv.but.os, h.mv.but.tape, h.mv.but.output, by simpa [World.setCell] using h.mv.but.size, fun k hk hk2 => (set_off (by omega)).trans (h.mv.but.block k hk hk2)⟩, fun o ho => (hcl o).trans (h.mv.cell o ho), fun o => by rw [World.frozen?_setCell]; exact h.mv.fz o⟩⟩
theorem Ss.ent (h : Ss w w0 R s X b x W) (n : Int) (h0 : w0.heap.size ≤ w.heap.size) (hR : R < w0.heap.size) : Ss w w0 R s X b (x.1, n) (W.setCell ⟨X, 1, none⟩ (.int .i64 n)) :=
  ⟨h.rd.set (by have := h.lt; omega) hR, (set_off (by have := h.lt; omega)).trans h.rb, by rw [set_at h.xb]; rfl, h.lt⟩
/-- The end of step. -/
theorem Ss.fin (h : Ss w w0 R s X b x W) (h0 : w0.heap.size ≤ w.heap.size) (hR : R < w0.heap.size) : Rd w0 R s b (W.setRow w.heap.size (spC x)) := by
  have hn : R ≠ w.heap.size := by omega
  have hb : ∀ k, k ≠ w.heap.size → (W.setRow w.heap.size (spC x)).heap[k]? = W.heap[k]? := fun k hk => setRow_other _ _ _ _ hk
  have hcl : ∀ o, (W.setRow w.heap.size (spC x)).cell? ⟨R, o, none⟩ = W.cell? ⟨R, o, none⟩ := fun o => by simp only [World.cell?, hb R hn]
  have hfz : ∀ o, (W.setRow w.heap.size (spC x)).frozen? ⟨R, o, none⟩ = W.frozen? ⟨R, o, none⟩ := fun o => by simp only [World.frozen?, hb R hn]
  exact ⟨⟨(hcl 0).trans h.rd.ra.h0, (hcl 1).trans h.rd.ra.h1, fun o => (hfz o).trans (h.rd.ra.fz o), by rw [size_setRow]; exact h.rd.ra.lt⟩, ⟨⟨h.rd.mv.but.os, h.rd.mv.but.tape, h.rd.mv.but.output, by rw [size_setRow]; exact h.rd.mv.but.size, fun k hk hk2 => (hb k (by omega)).trans (h.rd.mv.but.block k hk hk2)⟩, fun o ho => (hcl o).trans (h.rd.mv.cell o ho), fun o => (hfz o).trans (h.rd.mv.fz o)⟩⟩
end
set_option maxRecDepth 20000 in
set_option maxHeartbeats 4000000 in
theorem step_any (R : Nat) (s : ByteArray) (a : Nat) (hs : s.size ≤ 281474976710656) (ha : a ≤ s.size) (w : World) (h : RA w R s a) {o : Option (ByteArray × Int)} {b : Nat} (hst : stP s a = (o, b)) : Calls Tryd.prog 23 #[.pointer (some ⟨R, 0, none⟩)] w fun e w' => Rd w R s b w' ∧ ((o = none ∧ e = .panicked [pvE]) ∨ (∃ x, o = some x ∧ e = .returned (spV x))) := by
  have hR := h.lt
  have hb1 := bel1 w zSp
  have hz1 : (w.alloc zSp).heap.size = w.heap.size + 1 := World.size_alloc _ _
  have hr1 := heap_al w zSp
  have q1 := (Rd.refl h).below hb1
  generalize hW : w.alloc zSp = W1 at hb1 hz1 hr1 q1
  simp only [zSp] at hW
  have cN := name_any R s a hs ha W1 W1 (Rd.refl q1.ra)
  obtain ⟨E, hE⟩ : ∃ E, nmE s a 64 a = E := ⟨_, rfl⟩
  obtain ⟨g1, -, g3⟩ := nmE_ge s a 64 a
  rw [hE] at cN g1 g3
  have hEs := g3 ha
  by_cases hEa : E = a
  · have hs2 : o = none ∧ b = a := by
      unfold stP at hst
      rw [hE, if_pos hEa] at hst
      injection hst with e1 e2
      exact ⟨e1.symm, e2.symm⟩
    obtain ⟨rfl, rfl⟩ := hs2
    have cN2 : Calls Tryd.prog 32 #[.pointer (some ⟨R, 0, none⟩)] W1 fun e w' => e = .panicked [pvE] ∧ Hid (Rd w R s b w') := cN.mono fun e w' ⟨h1, h2⟩ => by
      rcases h2 with ⟨-, h2⟩ | ⟨h2, -⟩
      · exact ⟨h2, ⟨by have := q1.from h1; rw [hEa] at this; exact this⟩⟩
      · exact absurd hEa h2
    clear cN q1 h
    go_enter Tryd.func23, Tryd.ntmps23
    go_wp2_with (go_at_call 32; refine cN2.mono ?_; rintro _ w1 ⟨rfl, h1⟩)
    exact ⟨rfl, h1.out, .inl ⟨trivial, rfl⟩⟩
  · have cN2 : Calls Tryd.prog 32 #[.pointer (some ⟨R, 0, none⟩)] W1 fun e w2 => ∃ W3, e = .returned (.string (s.extract a E)) ∧ (∀ z : Array Value, z.size = 2 → (Instr.storeAt 46 (.pointer (some ⟨w2.heap.size, 0, none⟩)) (spV (s.extract a E, -1))).run Tryd.prog (w2.alloc (.cells z 46)) = .ok () W3) ∧ Hid (Ss w w R s w2.heap.size E (s.extract a E, -1) W3) := cN.mono fun e w2 ⟨h1, h2⟩ => by
      rcases h2 with ⟨h2, -⟩ | ⟨-, h2⟩
      · exact absurd h2 hEa
      · have hsz := h1.mv.but.size
        have hb2 := bel1 w2 (spO (s.extract a E, -1))
        refine ⟨_, h2, fun z hz => sp_new w2 z hz _, ⟨⟨(q1.from h1).below hb2, ?_, heap_al _ _, hR, by omega⟩⟩⟩
        exact (hb2.block _ (by omega)).trans ((h1.mv.but.block _ (by omega) (by omega)).trans hr1)
    clear cN q1 h hb1 hr1
    by_cases h91 : E < s.size ∧ ch s E = 91
    · have hEi : (E : Int) + 1 ≤ 281474976710656 := by omega
      obtain ⟨F, N, hF⟩ : ∃ F N, nuE s (E + 1) (s.size - (E + 1)) (E + 1) 0 = (F, N) := ⟨_, _, rfl⟩
      have cA : Hid (∀ X W, Ss w w R s X E (s.extract a E, -1) W → Calls Tryd.prog 33 #[.pointer (some ⟨R, 0, none⟩), .int .u8 91] W fun e w3 => e = .returned (.bool true) ∧ w3.cell? ⟨R, 1, none⟩ = some (.int .i64 (E : Int)) ∧ w3.frozen? ⟨R, 1, none⟩ = false ∧ Hid (Ss w w R s X (E + 1) (s.extract a E, -1) (w3.setCell ⟨R, 1, none⟩ (.int .i64 ((E : Int) + 1))))) := ⟨fun X W hX => (sees_any R s E 91 W W (Rd.refl hX.rd.ra)).mono fun e w3 ⟨h1, h2⟩ => by
        have hY := hX.call h2
        exact ⟨by rw [h1, decide_eq_true h91], hY.rd.ra.h1, hY.rd.ra.fz 1, ⟨hY.put _ (E + 1) (by omega)⟩⟩⟩
      have hFg := nuE_ge s (E + 1) (s.size - (E + 1)) (E + 1) 0
      rw [hF] at hFg
      have hFs : F ≤ s.size := hFg.2.1 (by omega)
      by_cases hFE : F = E + 1
      · have hs2 : o = none ∧ b = F := by
          unfold stP at hst
          rw [hE, if_neg hEa, if_pos h91, hF, if_pos (.inl hFE)] at hst
          injection hst with e1 e2
          exact ⟨e1.symm, e2.symm⟩
        obtain ⟨rfl, rfl⟩ := hs2
        have cU : Hid (∀ X W, Ss w w R s X (E + 1) (s.extract a E, -1) W → Calls Tryd.prog 34 #[.pointer (some ⟨R, 0, none⟩)] W fun e w' => e = .panicked [pvE] ∧ Hid (Rd w R s b w')) := ⟨fun X W hX => (number_any R s (E + 1) hs (by omega) W W (Rd.refl hX.rd.ra) hF).mono fun e w' ⟨h1, h2⟩ => by
          rcases h2 with ⟨-, h2⟩ | ⟨h2, -⟩
          · exact ⟨h2, ⟨hX.rd.from h1⟩⟩
          · exact absurd hFE h2⟩
        clear hst hE h91 hF hFg
        go_enter Tryd.func23, Tryd.ntmps23
        go_wp2_with (first
          | (go_at_call 32; refine cN2.mono ?_; rintro _ w2 ⟨W3, rfl, s3, hS⟩; replace s3 : Hid _ := ⟨s3⟩; have cS := cA.out _ _ hS.out; clear hS)
          | (go_at_call 33; refine cS.mono ?_; rintro _ w3 ⟨rfl, k1, f1, hS⟩; have cV := cU.out _ _ hS.out; clear hS)
          | (go_at_call 34; refine cV.mono ?_; rintro _ w4 ⟨rfl, h4⟩)
          | (guard_target =~ wpList _ _ _ (Oper.mk _ (Op.store 46 _ _) _ _ _ _ :: _) _ _; go_must (refine wpList_st 46 _ _ rfl rfl _ _ rfl rfl (s3.out _ rfl) ?_); simp only [pts]))
        exact ⟨rfl, h4.out, .inl ⟨trivial, rfl⟩⟩
      · have cU : Hid (∀ X W, Ss w w R s X (E + 1) (s.extract a E, -1) W → Calls Tryd.prog 34 #[.pointer (some ⟨R, 0, none⟩)] W fun e w' => e = .returned (.int .i64 (N : Int)) ∧ w'.cell? ⟨X, 1, none⟩ = some (.int .i64 (-1)) ∧ w'.frozen? ⟨X, 1, none⟩ = false ∧ Hid (Ss w w R s X F (s.extract a E, (N : Int)) (w'.setCell ⟨X, 1, none⟩ (.int .i64 (N : Int))))) := ⟨fun X W hX => (number_any R s (E + 1) hs (by omega) W W (Rd.refl hX.rd.ra) hF).mono fun e w' ⟨h1, h2⟩ => by
          rcases h2 with ⟨h2, -⟩ | ⟨-, h2⟩
          · exact absurd h2 hFE
          · have hY := hX.call h1
            exact ⟨h2, cell_at hY.xb 1, frz_at hY.xb, ⟨hY.ent N (Nat.le_refl _) hR⟩⟩⟩
        by_cases h93 : F < s.size ∧ ch s F = 93
        · have hs2 : o = some (s.extract a E, (N : Int)) ∧ b = F + 1 := by
            unfold stP at hst
            rw [hE, if_neg hEa, if_pos h91, hF, if_neg (fun hh => hh.elim hFE (fun h => h h93))] at hst
            injection hst with e1 e2
            exact ⟨e1.symm, e2.symm⟩
          obtain ⟨rfl, rfl⟩ := hs2
          have cW : Hid (∀ X W, Ss w w R s X F (s.extract a E, (N : Int)) W → Calls Tryd.prog 24 #[.pointer (some ⟨R, 0, none⟩), .int .u8 93] W fun e w3 => e = .returned (.tuple #[]) ∧ (Instr.loadAt 46 (.pointer (some ⟨X, 0, none⟩))).run Tryd.prog w3 = .ok (spV (s.extract a E, (N : Int))) w3 ∧ (Instr.storeAt 46 (.pointer (some ⟨w.heap.size, 0, none⟩)) (spV (s.extract a E, (N : Int)))).run Tryd.prog w3 = .ok () (w3.setRow w.heap.size (spC (s.extract a E, (N : Int)))) ∧ Hid (w3.heap[w.heap.size]? = some zSp ∧ Rd w R s (F + 1) (w3.setRow w.heap.size (spC (s.extract a E, (N : Int)))))) := ⟨fun X W hX => (want_ok R s F 93 (by omega) h93 W W (Rd.refl hX.rd.ra)).mono fun e w3 ⟨h1, h2⟩ => by
            have hY := hX.call h2
            exact ⟨h1, sp_ld _ hY.xb, sp_st hY.rb rfl _, ⟨hY.rb, hY.fin (Nat.le_refl _) hR⟩⟩⟩
          clear hst hE h91 hF hFg h93
          go_enter Tryd.func23, Tryd.ntmps23
          go_wp2_with (first
            | (go_at_call 32; refine cN2.mono ?_; rintro _ w2 ⟨W3, rfl, s3, hS⟩; replace s3 : Hid _ := ⟨s3⟩; have cS := cA.out _ _ hS.out; clear hS)
            | (go_at_call 33; refine cS.mono ?_; rintro _ w3 ⟨rfl, k1, f1, hS⟩; have cV := cU.out _ _ hS.out; clear hS)
            | (go_at_call 34; refine cV.mono ?_; rintro _ w4 ⟨rfl, k2, f2, hS⟩; have cX := cW.out _ _ hS.out; clear hS)
            | (go_at_call 24; refine cX.mono ?_; rintro _ w5 ⟨rfl, l3, t3, hG⟩; replace l3 : Hid _ := ⟨l3⟩; replace t3 : Hid _ := ⟨t3⟩)
            | (guard_target =~ wpList _ _ _ (Oper.mk _ (Op.load 46 _) _ _ _ _ :: _) _ _; go_must (refine wpList_ld 46 _ rfl rfl _ _ rfl l3.out ?_); simp only [pts])
            | (guard_target =~ wpList _ _ _ (Oper.mk _ (Op.store 46 _ _) _ _ _ _ :: _) _ _; go_must (first | refine wpList_st 46 _ _ rfl rfl _ _ rfl rfl (s3.out _ rfl) ?_ | refine wpList_st 46 _ _ rfl rfl _ _ rfl rfl t3.out ?_); simp only [pts]))
          exact bodyPost_ret (results_cell_row rfl _ _ w.heap.size 46 _ (0, 0) _ rfl (setRow_heap _ _ _ _ _ _ hG.out.1) Tryd.underlying46 rfl infoSp) rfl ⟨hG.out.2, .inr ⟨_, rfl, rfl⟩⟩
        · have hs2 : o = none ∧ b = F := by
            unfold stP at hst
            rw [hE, if_neg hEa, if_pos h91, hF, if_pos (.inr h93)] at hst
            injection hst with e1 e2
            exact ⟨e1.symm, e2.symm⟩
          obtain ⟨rfl, rfl⟩ := hs2
          have cW : Hid (∀ X W, Ss w w R s X b (s.extract a E, (N : Int)) W → Calls Tryd.prog 24 #[.pointer (some ⟨R, 0, none⟩), .int .u8 93] W fun e w3 => e = .panicked [pvE] ∧ Hid (Rd w R s b w3)) := ⟨fun X W hX => (want_no R s b 93 h93 W W (Rd.refl hX.rd.ra)).mono fun e w3 ⟨h1, h2⟩ => ⟨h1, ⟨hX.rd.from h2⟩⟩⟩
          clear hst hE h91 hF hFg h93
          go_enter Tryd.func23, Tryd.ntmps23
          go_wp2_with (first
            | (go_at_call 32; refine cN2.mono ?_; rintro _ w2 ⟨W3, rfl, s3, hS⟩; replace s3 : Hid _ := ⟨s3⟩; have cS := cA.out _ _ hS.out; clear hS)
            | (go_at_call 33; refine cS.mono ?_; rintro _ w3 ⟨rfl, k1, f1, hS⟩; have cV := cU.out _ _ hS.out; clear hS)
            | (go_at_call 34; refine cV.mono ?_; rintro _ w4 ⟨rfl, k2, f2, hS⟩; have cX := cW.out _ _ hS.out; clear hS)
            | (go_at_call 24; refine cX.mono ?_; rintro _ w5 ⟨rfl, h5⟩)
            | (guard_target =~ wpList _ _ _ (Oper.mk _ (Op.store 46 _ _) _ _ _ _ :: _) _ _; go_must (refine wpList_st 46 _ _ rfl rfl _ _ rfl rfl (s3.out _ rfl) ?_); simp only [pts]))
          exact ⟨rfl, h5.out, .inl ⟨trivial, rfl⟩⟩
    · have hs2 : o = some (s.extract a E, -1) ∧ b = E := by
        unfold stP at hst
        rw [hE, if_neg hEa, if_neg h91] at hst
        injection hst with e1 e2
        exact ⟨e1.symm, e2.symm⟩
      obtain ⟨rfl, rfl⟩ := hs2
      have hfin : Hid (∀ X W, Ss w w R s X b (s.extract a b, -1) W → Calls Tryd.prog 33 #[.pointer (some ⟨R, 0, none⟩), .int .u8 91] W fun e w3 => e = .returned (.bool false) ∧ (Instr.loadAt 46 (.pointer (some ⟨X, 0, none⟩))).run Tryd.prog w3 = .ok (spV (s.extract a b, -1)) w3 ∧ (Instr.storeAt 46 (.pointer (some ⟨w.heap.size, 0, none⟩)) (spV (s.extract a b, -1))).run Tryd.prog w3 = .ok () (w3.setRow w.heap.size (spC (s.extract a b, -1))) ∧ Hid (w3.heap[w.heap.size]? = some zSp ∧ Rd w R s b (w3.setRow w.heap.size (spC (s.extract a b, -1))))) := ⟨fun X W hX => (sees_any R s b 91 W W (Rd.refl hX.rd.ra)).mono fun e w3 ⟨h1, h2⟩ => by
        have hY := hX.call h2
        exact ⟨by rw [h1, decide_eq_false h91], sp_ld _ hY.xb, sp_st hY.rb rfl _, ⟨hY.rb, hY.fin (Nat.le_refl _) hR⟩⟩⟩
      clear hst hE h91 hR
      go_enter Tryd.func23, Tryd.ntmps23
      go_wp2_with (first
        | (go_at_call 32; refine cN2.mono ?_; rintro _ w2 ⟨W3, rfl, s3, hS⟩; replace s3 : Hid _ := ⟨s3⟩; have cS := hfin.out _ _ hS.out; clear hS)
        | (go_at_call 33; refine cS.mono ?_; rintro _ w3 ⟨rfl, l3, t3, hF⟩; replace l3 : Hid _ := ⟨l3⟩; replace t3 : Hid _ := ⟨t3⟩)
        | (guard_target =~ wpList _ _ _ (Oper.mk _ (Op.load 46 _) _ _ _ _ :: _) _ _; go_must (refine wpList_ld 46 _ rfl rfl _ _ rfl l3.out ?_); simp only [pts])
        | (guard_target =~ wpList _ _ _ (Oper.mk _ (Op.store 46 _ _) _ _ _ _ :: _) _ _; go_must (first | refine wpList_st 46 _ _ rfl rfl _ _ rfl rfl (s3.out _ rfl) ?_ | refine wpList_st 46 _ _ rfl rfl _ _ rfl rfl t3.out ?_); simp only [pts]))
      exact bodyPost_ret (results_cell_row rfl _ _ w.heap.size 46 _ (0, 0) _ rfl (setRow_heap _ _ _ _ _ _ hF.out.1) Tryd.underlying46 rfl infoSp) rfl ⟨hF.out.2, .inr ⟨_, rfl, rfl⟩⟩
end Go.Proofs.YtfikmlckcbnppaaDoor

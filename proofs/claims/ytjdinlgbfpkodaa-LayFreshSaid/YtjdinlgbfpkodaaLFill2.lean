/- The rooms laid by one of the row's functions: fill. -/
import Derived.Test.YtjdinlgbfpkodaaLFill
namespace Go.Proofs.Ytjdinlgbfpkodaa
open Go.ChangeShapes Go.WideShapes Go.ChangeAt Go.RowKit

theorem res_fill (tmps : Array Value) (b : Addr) (x n : Int) (h2 : tmps[8]?.getD undef = .pointer (some b)) (h3 : tmps[9]?.getD undef = .int .i64 n) (W : World) (hT : W.cell? b = some (.int .i64 x)) :
    (results Try.f28 tmps).run Try.prog W = .ok (.tuple #[.int .i64 x, .int .i64 n]) W := by
  simp [results, Try.results28, go_sem, h2, h3, hT]
def FillPost (k R H : Nat) (Z : Int × Nat × Option (St × Int)) (w : World) (r : Ending) (w' : World) : Prop :=
  r = .returned (.tuple #[.int .i64 Z.1, .int .i64 (Z.2.1 : Int)]) ∧ Kp R H w w' ∧ match Z.2.2 with
    | none => RC w' R zV
    | some (s, b) => SRow k w' R H s b
/-- What each of the row's functions does. -/
def One (k fk R H N : Nat) : Prop := ∀ (s : St) (x : Rm) (w : World) (j : Nat), SRow k w R H s 0 → R < H → H ≤ w.heap.size → StOk s j → j ≤ N → x.ok → Calls Try.prog fk #[.pointer (some ⟨R, 0, none⟩), rmV x] w (OnePost k R H s 0 x w)
theorem one_place (R H : Nat) : One 0 29 R H 8796093021952 := fun s x w _ hS hR hH hO hj hx => place_any R H s 0 x w hS hR hH (Nat.le_trans hO.o hj) hO.e hx
theorem one_gap (R H : Nat) : One 1 33 R H 8796093021952 := fun s x w _ hS hR hH hO hj hx => gap_any R H s 0 x w hS hR hH (Nat.le_trans hO.l hj) hO.e hO.t hx
theorem one_plain (R H : Nat) : One 2 31 R H 8796093021952 := fun s x w _ hS hR hH hO hj hx => plain_any R H s 0 x w hS hR hH (Nat.le_trans hO.l hj) hO.e hx
theorem drop_at {α : Type} {l : List α} {n : Nat} {x : α} (h : l[n]? = some x) : l.drop n = x :: l.drop (n + 1) := by
  obtain ⟨hl, e⟩ := List.getElem?_eq_some_iff.1 h
  rw [List.drop_eq_getElem_cons hl, e]
theorem SRow.kp {k : Nat} {w w' : World} {R H : Nat} {s : St} {b : Int} (h : SRow k w R H s b) (hb : w'.heap[R]? = w.heap[R]?) (ho : ∀ j, H ≤ j → j < w.heap.size → w'.heap[j]? = w.heap[j]?) (hs : w.heap.size ≤ w'.heap.size) : SRow k w' R H s b := by
  obtain ⟨v, hC, h0, h1, h2, hk⟩ := h
  refine ⟨v, hC.same hb hs, h0, h1, h2, ?_⟩
  rcases hk with ⟨a, z, r⟩ | ⟨a, r, q, z⟩
  · exact .inl ⟨a, own_same z fun j hj => ho j (own_lt z hj).1 (own_lt z hj).2, r⟩
  · exact .inr ⟨a, r, q, own_same z fun j hj => ho j (own_lt z hj).1 (own_lt z hj).2⟩
theorem SRow.mono {k : Nat} {w : World} {R H H' : Nat} {s : St} {b : Int} (h : SRow k w R H s b) (hH : H' ≤ H) : SRow k w R H' s b := by
  obtain ⟨v, hC, h0, h1, h2, hk⟩ := h
  refine ⟨v, hC, h0, h1, h2, ?_⟩
  rcases hk with ⟨a, z, r⟩ | ⟨a, r, q, z⟩
  · exact .inl ⟨a, own_mono z hH, r⟩
  · exact .inr ⟨a, r, q, own_mono z hH⟩
theorem SRow.lt {k : Nat} {w : World} {R H : Nat} {s : St} {b : Int} (h : SRow k w R H s b) : R < w.heap.size := by obtain ⟨v, hC, _⟩ := h; exact hC.lt
theorem SRow.zero (k : Nat) {w : World} {R : Nat} (H : Nat) (h : RC w R zV) : SRow k w R H s0 0 := by
  refine ⟨zV, h, rfl, rfl, rfl, ?_⟩
  by_cases hk : k = 0
  · exact .inl ⟨hk, World.ownsRow_nil _ _ _ 1, rfl, rfl⟩
  · exact .inr ⟨hk, rfl, rfl, World.ownsRow_nil _ _ _ 2⟩
set_option maxRecDepth 100000 in
set_option maxHeartbeats 8000000 in
theorem fill_any (k fk R N : Nat) (l : List Rm) (pp : Option Addr) (cp : Nat) (b : Int) (w : World) (hC : RC w R zV) (hone : One k fk R (w.heap.size + 2) N) (hen : ∀ ag w, (callFunc fk ag).run Try.prog w = .ok (.enter fk ag) w)
    (hr : RmRow w pp w.heap.size l) (hpR : l ≠ [] → ∀ a, pp = some a → a.block ≠ R) (hl : l.length ≤ N) (hN : N ≤ 8796093021952) (hx : ∀ x ∈ l, x.ok) :
    Calls Try.prog 28 #[.pointer (some ⟨R, 0, none⟩), .slice pp l.length cp, .func (.func fk) #[.pointer (some ⟨R, 0, none⟩)] #[], .int .i64 b] w (FillPost k R w.heap.size (fillZ k l b) w) := by
  have hmf := hmfA
  have hlt := hC.lt
  have hbl := fun W => blockFault_any b W
  obtain ⟨Z, hZ⟩ : ∃ Z, fillZ k l b = Z := ⟨_, rfl⟩
  rw [hZ]
  unfold fillZ at hZ
  have ner : (⟨w.heap.size + 1, 0, none⟩ : Addr) ≠ ⟨w.heap.size, 0, none⟩ := fun e => by injection e with e; omega
  -- how it ends: with an error
  have hbad : Hid (∀ (w1 : World) (er : Int) (n : Nat) (v : Nat → Value) (tmps : Array Value), er ≠ 0 → Z = (er, n, none) → Kp R w.heap.size w w1 → RC w1 R v → w1.cell? ⟨w.heap.size, 0, none⟩ = some (.pointer (some ⟨R, 0, none⟩)) → w1.cell? ⟨w.heap.size + 1, 0, none⟩ = some (.int .i64 er) →
      tmps[8]?.getD undef = .pointer (some ⟨w.heap.size + 1, 0, none⟩) → tmps[9]?.getD undef = .int .i64 (n : Int) →
      Leaves Try.prog Try.f28 tmps (FillPost k R w.heap.size Z w) [{ target := Target.fn (Fn.func 37) #[.pointer (some ⟨w.heap.size + 1, 0, none⟩), .pointer (some ⟨w.heap.size, 0, none⟩)], args := #[] }] .returning w1) := by
    refine ⟨fun w1 er n v tmps her hZe hK hC1 hbx he h8 h9 => ?_⟩
    subst hZe
    refine leaves_cons (f := 37) (args := #[.pointer (some ⟨w.heap.size + 1, 0, none⟩), .pointer (some ⟨w.heap.size, 0, none⟩)]) (by simp) (by simp [go_sem]) ?_
    refine (fillD_err ⟨w.heap.size + 1, 0, none⟩ ⟨w.heap.size, 0, none⟩ R er v _ w1 he her hbx hC1).mono ?_
    rintro e u' w2 ⟨rfl, rfl, hK2, hC2⟩
    have hl1 : w.heap.size + 1 < w1.heap.size := World.block_lt_of_cell? w1 ⟨w.heap.size + 1, 0, none⟩ he
    exact ⟨_, res_fill _ ⟨w.heap.size + 1, 0, none⟩ er n h8 h9 _ ((hK2.cell hl1 (by omega)).trans he), rfl, hK.trans (hK2.mono (by omega)), hC2⟩
  have hgood : Hid (∀ (w1 : World) (s : St) (c : Int) (tmps : Array Value), Z = (0, 0, some (s, c)) → Kp R w.heap.size w w1 → SRow k w1 R (w.heap.size + 2) s c → w1.cell? ⟨w.heap.size + 1, 0, none⟩ = some (.int .i64 0) →
      tmps[8]?.getD undef = .pointer (some ⟨w.heap.size + 1, 0, none⟩) → tmps[9]?.getD undef = .int .i64 0 →
      Leaves Try.prog Try.f28 tmps (FillPost k R w.heap.size Z w) [{ target := Target.fn (Fn.func 37) #[.pointer (some ⟨w.heap.size + 1, 0, none⟩), .pointer (some ⟨w.heap.size, 0, none⟩)], args := #[] }] .returning w1) := by
    refine ⟨fun w1 s c tmps hZe hK hS he h8 h9 => ?_⟩
    subst hZe
    refine leaves_cons (f := 37) (args := #[.pointer (some ⟨w.heap.size + 1, 0, none⟩), .pointer (some ⟨w.heap.size, 0, none⟩)]) (by simp) (by simp [go_sem]) ?_
    refine (fillD_ok ⟨w.heap.size + 1, 0, none⟩ ⟨w.heap.size, 0, none⟩ _ w1 he).mono ?_
    rintro e u' w2 ⟨rfl, rfl, rfl⟩
    exact ⟨_, res_fill _ ⟨w.heap.size + 1, 0, none⟩ 0 0 h8 h9 _ he, rfl, hK, hS.mono (by omega)⟩
  -- the world ahead of the loop
  obtain ⟨wa, hwa⟩ : ∃ wa, wa = (w.alloc (.cells #[.pointer (some ⟨R, 0, none⟩)] 63)).alloc (.cells #[.int .i64 0] 27) := ⟨_, rfl⟩
  have hsa : wa.heap.size = w.heap.size + 2 := by rw [hwa, World.size_alloc, World.size_alloc]
  have hBa : Below w.heap.size w wa := by rw [hwa]; exact (bel1 w _).trans ((bel1 _ _).mono (by rw [World.size_alloc]; omega))
  have hea : wa.heap[w.heap.size + 1]? = some (.cells #[.int .i64 0] 27) := by rw [hwa]; have := heap_new (w.alloc (.cells #[.pointer (some ⟨R, 0, none⟩)] 63)) (.cells #[.int .i64 0] 27); rw [World.size_alloc] at this; exact this
  have hba : wa.heap[w.heap.size]? = some (.cells #[.pointer (some ⟨R, 0, none⟩)] 63) := by rw [hwa]; exact ((bel1 _ _).block _ (by rw [World.size_alloc]; omega)).trans (heap_new w _)
  by_cases hb0 : blkErr b = 0
  · simp only [hb0] at hbl
    rw [if_pos hb0] at hZ
    go_enter_defers Try.func28, Try.ntmps28
    go_wp2_with (go_at_call 38; refine (hbl _).mono ?_; rintro _ _ ⟨rfl, rfl⟩)
    go_loopw [22] (fun n wr => ∃ (j : Nat) (s : St), j ≤ l.length ∧ n = .int .i64 j ∧ SRow k wr R (w.heap.size + 2) s 0 ∧ StOk s j ∧ Kp R w.heap.size w wr ∧ w.heap.size + 2 ≤ wr.heap.size ∧ wr.cell? ⟨w.heap.size, 0, none⟩ = some (.pointer (some ⟨R, 0, none⟩)) ∧ wr.cell? ⟨w.heap.size + 1, 0, none⟩ = some (.int .i64 0) ∧ wr.frozen? ⟨w.heap.size + 1, 0, none⟩ = false ∧ fillR k (l.drop j) s j = fillR k l s0 0) (fun n _ => l.length - (RowKit.intOf n).toNat)
    case atStart =>
      rw [← hwa]
      exact ⟨0, s0, Nat.zero_le _, by go_num, SRow.zero k _ (hC.below hBa), ⟨by decide, by decide, Nat.le_refl _, Nat.le_refl _⟩, Kp.of hBa, by omega, cell_lit hba 0, cell_lit hea 0, by simp only [World.frozen?, hea]; rfl, rfl⟩
    case round =>
      obtain ⟨j, s, hj, rfl, hS, hO, hK, hz, hbx, he, hf, hR⟩ := hrel
      by_cases hlt2 : j < l.length
      · obtain ⟨x, hxj⟩ : ∃ x, l[j]? = some x := ⟨l[j], List.getElem?_eq_getElem hlt2⟩
        obtain ⟨g, o, rfl, hg, q0, q1⟩ := hr.c j x hxj
        have hgR : g ≠ R := hpR (fun e => by rw [e] at hlt2; cases hlt2) _ rfl
        have r0 : wr.cell? ⟨g, o + j * 2, none⟩ = some (.int .i64 x.sz) := (hK.cell hg hgR).trans q0
        have r1 : wr.cell? ⟨g, o + j * 2 + 1, none⟩ = some (.int .i64 x.of) := (hK.cell hg hgR).trans q1
        have hlti : (j : Int) < l.length := by omega
        have hxk := hx x (List.mem_of_getElem? hxj)
        rw [drop_at hxj] at hR
        have hal := bel1 wr (.cells #[.int .i64 x.sz, .int .i64 x.of] 35)
        have hS1 : SRow k (wr.alloc (.cells #[.int .i64 x.sz, .int .i64 x.of] 35)) R (w.heap.size + 2) s 0 := hS.kp (hal.block R hS.lt) (fun i _ hi => hal.block i hi) hal.size
        have hcl := hone s x _ j hS1 (by omega) (by rw [World.size_alloc]; omega) hO (by omega) hxk
        simp only [fillR] at hR
        clear hone q0 q1 hS hr hpR
        by_cases hE : layErr x s.e = 0
        · rw [if_pos hE] at hR
          have hcl2 : Calls Try.prog fk #[.pointer (some ⟨R, 0, none⟩), .agg #[.int .i64 x.sz, .int .i64 x.of]] (wr.alloc (.cells #[.int .i64 x.sz, .int .i64 x.of] 35)) fun r w1 => r = .returned (.int .i64 0) ∧ w1.cell? ⟨w.heap.size + 1, 0, none⟩ = some (.int .i64 0) ∧ w1.frozen? ⟨w.heap.size + 1, 0, none⟩ = false ∧
              Hid (SRow k (w1.setCell ⟨w.heap.size + 1, 0, none⟩ (.int .i64 0)) R (w.heap.size + 2) (stp k s x) 0 ∧ Kp R w.heap.size w (w1.setCell ⟨w.heap.size + 1, 0, none⟩ (.int .i64 0)) ∧ w.heap.size + 2 ≤ (w1.setCell ⟨w.heap.size + 1, 0, none⟩ (.int .i64 0)).heap.size ∧ (w1.setCell ⟨w.heap.size + 1, 0, none⟩ (.int .i64 0)).cell? ⟨w.heap.size, 0, none⟩ = some (.pointer (some ⟨R, 0, none⟩))) := by
            refine hcl.mono ?_
            rintro r w1 ⟨rfl, hK1, _, hSn⟩
            rw [hE]
            have c1 : w1.cell? ⟨w.heap.size + 1, 0, none⟩ = some (.int .i64 0) := (hK1.cell (by omega) (by omega)).trans ((hal.cell (p := ⟨w.heap.size + 1, 0, none⟩) (show w.heap.size + 1 < wr.heap.size by omega)).trans he)
            have f1 : w1.frozen? ⟨w.heap.size + 1, 0, none⟩ = false := by
              have h1 : w1.heap[w.heap.size + 1]? = wr.heap[w.heap.size + 1]? := (hK1.block _ (by omega) (by omega)).trans (hal.block _ (by omega))
              simp only [World.frozen?, h1] at hf ⊢
              exact hf
            have hsz := hK1.size
            rw [World.size_alloc] at hsz
            refine ⟨rfl, c1, f1, ⟨(hSn hE).kp (Below.heap_setCell _ _ _ _ (show R ≠ w.heap.size + 1 by omega)) (fun i hi _ => Below.heap_setCell _ _ _ _ (show i ≠ w.heap.size + 1 by omega)) (by simp [World.setCell]), ((hK.trans (Kp.of (hal.mono (by omega)))).trans (hK1.mono (by omega))).high (by omega) 0 _, by simp [World.setCell]; omega, ?_⟩⟩
            exact (World.cell?_setCell_other w1 _ _ _ ner).trans ((hK1.cell (by omega) (by omega)).trans ((hal.cell (p := ⟨w.heap.size, 0, none⟩) (show w.heap.size < wr.heap.size by omega)).trans hbx))
          clear hcl
          go_wp2_with fail
          refine hcl2.mono ?_
          rintro _ w1 ⟨rfl, c1, f1, HX⟩
          clear hcl2
          go_wp2_with fail
          go_roundw
          case rel => exact ⟨j + 1, stp k s x, by omega, by go_num, HX.out.1, hO.stp k hE, HX.out.2.1, HX.out.2.2.1, HX.out.2.2.2, World.cell?_setCell_same _ ⟨w.heap.size + 1, 0, none⟩ _ c1, by rw [World.frozen?_setCell]; exact f1, hR⟩
          case measure => simp [RowKit.intOf]; omega
        · rw [if_neg hE] at hR
          rw [← hR] at hZ
          unfold OnePost at hcl
          generalize layErr x s.e = er at hE hcl hZ
          have hb1 : (er == 0) = false := beq_eq_false_iff_ne.2 hE
          have hb2 : (er != 0) = true := by rw [bne, hb1]; rfl
          have hcl2 : Calls Try.prog fk #[.pointer (some ⟨R, 0, none⟩), .agg #[.int .i64 x.sz, .int .i64 x.of]] (wr.alloc (.cells #[.int .i64 x.sz, .int .i64 x.of] 35)) fun r w1 => r = .returned (.int .i64 er) ∧ w1.cell? ⟨w.heap.size + 1, 0, none⟩ = some (.int .i64 0) ∧ w1.frozen? ⟨w.heap.size + 1, 0, none⟩ = false ∧ (w1.setCell ⟨w.heap.size + 1, 0, none⟩ (.int .i64 er)).cell? ⟨w.heap.size + 1, 0, none⟩ = some (.int .i64 er) ∧ (w1.setCell ⟨w.heap.size + 1, 0, none⟩ (.int .i64 er)).frozen? ⟨w.heap.size + 1, 0, none⟩ = false ∧
              Hid (∃ v, RC ((w1.setCell ⟨w.heap.size + 1, 0, none⟩ (.int .i64 er)).setCell ⟨w.heap.size + 1, 0, none⟩ (.int .i64 er)) R v ∧ Kp R w.heap.size w ((w1.setCell ⟨w.heap.size + 1, 0, none⟩ (.int .i64 er)).setCell ⟨w.heap.size + 1, 0, none⟩ (.int .i64 er)) ∧ ((w1.setCell ⟨w.heap.size + 1, 0, none⟩ (.int .i64 er)).setCell ⟨w.heap.size + 1, 0, none⟩ (.int .i64 er)).cell? ⟨w.heap.size, 0, none⟩ = some (.pointer (some ⟨R, 0, none⟩)) ∧ ((w1.setCell ⟨w.heap.size + 1, 0, none⟩ (.int .i64 er)).setCell ⟨w.heap.size + 1, 0, none⟩ (.int .i64 er)).cell? ⟨w.heap.size + 1, 0, none⟩ = some (.int .i64 er)) := by
            refine hcl.mono ?_
            rintro r w1 ⟨rfl, hK1, ⟨v1, hC1⟩, _⟩
            have c1 : w1.cell? ⟨w.heap.size + 1, 0, none⟩ = some (.int .i64 0) := (hK1.cell (by omega) (by omega)).trans ((hal.cell (p := ⟨w.heap.size + 1, 0, none⟩) (show w.heap.size + 1 < wr.heap.size by omega)).trans he)
            have f1 : w1.frozen? ⟨w.heap.size + 1, 0, none⟩ = false := by
              have h1 : w1.heap[w.heap.size + 1]? = wr.heap[w.heap.size + 1]? := (hK1.block _ (by omega) (by omega)).trans (hal.block _ (by omega))
              simp only [World.frozen?, h1] at hf ⊢
              exact hf
            have hsz := hK1.size
            rw [World.size_alloc] at hsz
            have c2 := World.cell?_setCell_same w1 ⟨w.heap.size + 1, 0, none⟩ (.int .i64 er) c1
            refine ⟨rfl, c1, f1, c2, by rw [World.frozen?_setCell]; exact f1, ⟨v1, ?_, ?_, ?_, World.cell?_setCell_same _ _ _ c2⟩⟩
            · exact (hC1.same (Below.heap_setCell _ _ _ _ (show R ≠ w.heap.size + 1 by omega)) (by simp [World.setCell])).same (Below.heap_setCell _ _ _ _ (show R ≠ w.heap.size + 1 by omega)) (by simp [World.setCell])
            · exact (((hK.trans (Kp.of (hal.mono (by omega)))).trans (hK1.mono (by omega))).high (by omega) 0 _).high (by omega) 0 _
            · exact (World.cell?_setCell_other _ _ _ _ ner).trans ((World.cell?_setCell_other w1 _ _ _ ner).trans ((hK1.cell (by omega) (by omega)).trans ((hal.cell (p := ⟨w.heap.size, 0, none⟩) (show w.heap.size < wr.heap.size by omega)).trans hbx)))
          clear hcl
          go_wp2_with fail
          refine hcl2.mono ?_
          rintro _ w1 ⟨rfl, c1, f1, c2, f2, HX⟩
          clear hcl2
          go_wp2_with fail
          obtain ⟨v1, z1, z2, z3, z4⟩ := HX.out
          exact hbad.out _ er j v1 _ hE hZ.symm z2 z1 z3 z4 rfl rfl
      · obtain rfl : j = l.length := by omega
        rw [List.drop_length] at hR
        simp only [fillR] at hR
        rw [← hR] at hZ
        have hcl := close_any k R (w.heap.size + 2) s b wr hS (by omega)
        dsimp only at hZ
        generalize sayB b s.e = SB at hcl hZ
        by_cases hL : SB < s.e
        · rw [if_pos hL] at hcl hZ
          have hcl2 : Calls Try.prog 39 #[.pointer (some ⟨R, 0, none⟩), .int .i64 b] wr fun r w1 => r = .returned (.int .i64 71) ∧ w1.cell? ⟨w.heap.size + 1, 0, none⟩ = some (.int .i64 0) ∧ w1.frozen? ⟨w.heap.size + 1, 0, none⟩ = false ∧ (w1.setCell ⟨w.heap.size + 1, 0, none⟩ (.int .i64 71)).cell? ⟨w.heap.size + 1, 0, none⟩ = some (.int .i64 71) ∧ (w1.setCell ⟨w.heap.size + 1, 0, none⟩ (.int .i64 71)).frozen? ⟨w.heap.size + 1, 0, none⟩ = false ∧
              Hid (∃ v, RC ((w1.setCell ⟨w.heap.size + 1, 0, none⟩ (.int .i64 71)).setCell ⟨w.heap.size + 1, 0, none⟩ (.int .i64 71)) R v ∧ Kp R w.heap.size w ((w1.setCell ⟨w.heap.size + 1, 0, none⟩ (.int .i64 71)).setCell ⟨w.heap.size + 1, 0, none⟩ (.int .i64 71)) ∧ ((w1.setCell ⟨w.heap.size + 1, 0, none⟩ (.int .i64 71)).setCell ⟨w.heap.size + 1, 0, none⟩ (.int .i64 71)).cell? ⟨w.heap.size, 0, none⟩ = some (.pointer (some ⟨R, 0, none⟩)) ∧ ((w1.setCell ⟨w.heap.size + 1, 0, none⟩ (.int .i64 71)).setCell ⟨w.heap.size + 1, 0, none⟩ (.int .i64 71)).cell? ⟨w.heap.size + 1, 0, none⟩ = some (.int .i64 71)) := by
            refine hcl.mono ?_
            rintro r w1 ⟨rfl, hK1, v1, hC1, _⟩
            have c1 : w1.cell? ⟨w.heap.size + 1, 0, none⟩ = some (.int .i64 0) := (hK1.cell (by omega) (by omega)).trans he
            have f1 : w1.frozen? ⟨w.heap.size + 1, 0, none⟩ = false := by
              have h1 : w1.heap[w.heap.size + 1]? = wr.heap[w.heap.size + 1]? := hK1.block _ (by omega) (by omega)
              simp only [World.frozen?, h1] at hf ⊢
              exact hf
            have hsz := hK1.size
            have c2 := World.cell?_setCell_same w1 ⟨w.heap.size + 1, 0, none⟩ (.int .i64 71) c1
            refine ⟨rfl, c1, f1, c2, by rw [World.frozen?_setCell]; exact f1, ⟨v1, ?_, ?_, ?_, World.cell?_setCell_same _ _ _ c2⟩⟩
            · exact (hC1.same (Below.heap_setCell _ _ _ _ (show R ≠ w.heap.size + 1 by omega)) (by simp [World.setCell])).same (Below.heap_setCell _ _ _ _ (show R ≠ w.heap.size + 1 by omega)) (by simp [World.setCell])
            · exact ((hK.trans (hK1.mono (by omega))).high (by omega) 0 _).high (by omega) 0 _
            · exact (World.cell?_setCell_other _ _ _ _ ner).trans ((World.cell?_setCell_other w1 _ _ _ ner).trans ((hK1.cell (by omega) (by omega)).trans hbx))
          clear hcl hone hr hpR hS
          go_wp2_with fail
          refine hcl2.mono ?_
          rintro _ w1 ⟨rfl, c1, f1, c2, f2, HX⟩
          clear hcl2
          go_wp2_with fail
          obtain ⟨v1, z1, z2, z3, z4⟩ := HX.out
          exact hbad.out _ 71 l.length v1 _ (by decide) hZ.symm z2 z1 z3 z4 rfl rfl
        · rw [if_neg hL] at hcl hZ
          have hcl2 : Calls Try.prog 39 #[.pointer (some ⟨R, 0, none⟩), .int .i64 b] wr fun r w1 => r = .returned (.int .i64 0) ∧ w1.cell? ⟨w.heap.size + 1, 0, none⟩ = some (.int .i64 0) ∧ w1.frozen? ⟨w.heap.size + 1, 0, none⟩ = false ∧ (w1.setCell ⟨w.heap.size + 1, 0, none⟩ (.int .i64 0)).cell? ⟨w.heap.size + 1, 0, none⟩ = some (.int .i64 0) ∧ (w1.setCell ⟨w.heap.size + 1, 0, none⟩ (.int .i64 0)).frozen? ⟨w.heap.size + 1, 0, none⟩ = false ∧
              Hid (SRow k ((w1.setCell ⟨w.heap.size + 1, 0, none⟩ (.int .i64 0)).setCell ⟨w.heap.size + 1, 0, none⟩ (.int .i64 0)) R (w.heap.size + 2) s SB ∧ Kp R w.heap.size w ((w1.setCell ⟨w.heap.size + 1, 0, none⟩ (.int .i64 0)).setCell ⟨w.heap.size + 1, 0, none⟩ (.int .i64 0)) ∧ ((w1.setCell ⟨w.heap.size + 1, 0, none⟩ (.int .i64 0)).setCell ⟨w.heap.size + 1, 0, none⟩ (.int .i64 0)).cell? ⟨w.heap.size + 1, 0, none⟩ = some (.int .i64 0)) := by
            refine hcl.mono ?_
            rintro r w1 ⟨rfl, hK1, hS1⟩
            have c1 : w1.cell? ⟨w.heap.size + 1, 0, none⟩ = some (.int .i64 0) := (hK1.cell (by omega) (by omega)).trans he
            have f1 : w1.frozen? ⟨w.heap.size + 1, 0, none⟩ = false := by
              have h1 : w1.heap[w.heap.size + 1]? = wr.heap[w.heap.size + 1]? := hK1.block _ (by omega) (by omega)
              simp only [World.frozen?, h1] at hf ⊢
              exact hf
            have hsz := hK1.size
            have c2 := World.cell?_setCell_same w1 ⟨w.heap.size + 1, 0, none⟩ (.int .i64 0) c1
            refine ⟨rfl, c1, f1, c2, by rw [World.frozen?_setCell]; exact f1, ⟨?_, ?_, World.cell?_setCell_same _ _ _ c2⟩⟩
            · exact (hS1.kp (Below.heap_setCell _ _ _ _ (show R ≠ w.heap.size + 1 by omega)) (fun i hi _ => Below.heap_setCell _ _ _ _ (show i ≠ w.heap.size + 1 by omega)) (by simp [World.setCell])).kp (Below.heap_setCell _ _ _ _ (show R ≠ w.heap.size + 1 by omega)) (fun i hi _ => Below.heap_setCell _ _ _ _ (show i ≠ w.heap.size + 1 by omega)) (by simp [World.setCell])
            · exact ((hK.trans (hK1.mono (by omega))).high (by omega) 0 _).high (by omega) 0 _
          clear hcl hone hr hpR hS
          go_wp2_with fail
          refine hcl2.mono ?_
          rintro _ w1 ⟨rfl, c1, f1, c2, f2, HX⟩
          clear hcl2
          go_wp2_with fail
          exact hgood.out _ s SB _ hZ.symm HX.out.2.1 HX.out.1 HX.out.2.2 rfl rfl
  · rw [if_neg hb0] at hZ
    generalize blkErr b = er at hb0 hbl hZ
    have hb1 : (er == 0) = false := beq_eq_false_iff_ne.2 hb0
    have hb2 : (er != 0) = true := by rw [bne, hb1]; rfl
    obtain ⟨wb, hwb⟩ : ∃ wb, wb = (w.alloc (.cells #[.pointer (some ⟨R, 0, none⟩)] 63)).alloc (.cells #[.int .i64 er] 27) := ⟨_, rfl⟩
    have hBb : Below w.heap.size w wb := by rw [hwb]; exact (bel1 w _).trans ((bel1 _ _).mono (by rw [World.size_alloc]; omega))
    have heb : wb.heap[w.heap.size + 1]? = some (.cells #[.int .i64 er] 27) := by rw [hwb]; have := heap_new (w.alloc (.cells #[.pointer (some ⟨R, 0, none⟩)] 63)) (.cells #[.int .i64 er] 27); rw [World.size_alloc] at this; exact this
    have hbb : wb.heap[w.heap.size]? = some (.cells #[.pointer (some ⟨R, 0, none⟩)] 63) := by rw [hwb]; exact ((bel1 _ _).block _ (by rw [World.size_alloc]; omega)).trans (heap_new w _)
    have HX := hbad.out wb er l.length zV
    clear hone hr hpR
    go_enter_defers Try.func28, Try.ntmps28
    go_wp2_with (go_at_call 38; refine (hbl _).mono ?_; rintro _ _ ⟨rfl, rfl⟩)
    rw [← hwb]
    exact HX _ hb0 hZ.symm (Kp.of hBb) (hC.below hBb) (cell_lit hbb 0) (cell_lit heb 0) rfl rfl
end Go.Proofs.Ytjdinlgbfpkodaa

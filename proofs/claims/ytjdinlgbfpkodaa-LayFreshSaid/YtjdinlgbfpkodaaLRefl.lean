/- The rooms laid again at the offsets that they have. -/
import Derived.Test.YtjdinlgbfpkodaaLPl
import Derived.Laws.MakeOwn
namespace Go.Proofs.Ytjdinlgbfpkodaa
open Go.ChangeShapes Go.WideShapes Go.ChangeAt Go.RowKit Go.Shelf

def seatsL (l : List Rm) (os : List Int) : List Rm := List.zipWith (fun x o => (⟨x.sz, o⟩ : Rm)) l os
def refillZ (k : Nat) (l : List Rm) (os : List Int) (b : Int) : Option (St × Int) :=
  if b < 0 ∨ l.length ≠ os.length ∨ (∃ o ∈ os, o < 0) then none else (fillZ k (seatsL l os) b).2.2
theorem fillR_er {k : Nat} : ∀ (l : List Rm) (s : St) (i : Nat) (er : Int) (j : Nat), fillR k l s i = .error (er, j) → er ≠ 0
  | [], _, _, _, _, h => by cases h
  | x :: r, s, i, er, j, h => by
    simp only [fillR] at h
    split at h
    · exact fillR_er r _ _ _ _ h
    · rename_i hn
      cases h
      exact hn
theorem fillZ_none (k : Nat) (l : List Rm) (b : Int) : ((fillZ k l b).2.2 = none ∧ (fillZ k l b).1 ≠ 0) ∨ (∃ p, (fillZ k l b).2.2 = some p ∧ (fillZ k l b).1 = 0) := by
  unfold fillZ
  by_cases hb : blkErr b = 0
  · rw [if_pos hb]
    cases hf : fillR k l s0 0 with
    | error p => exact .inl ⟨rfl, fillR_er l s0 0 p.1 p.2 hf⟩
    | ok s =>
      dsimp only
      by_cases hs : sayB b s.e < s.e
      · rw [if_pos hs]; exact .inl ⟨rfl, show (71 : Int) ≠ 0 by decide⟩
      · rw [if_neg hs]; exact .inr ⟨_, rfl, rfl⟩
  · rw [if_neg hb]; exact .inl ⟨rfl, hb⟩
/-- Seats that are being filled. -/
structure Seat (w : World) (g n j : Nat) (S : List Rm) : Prop where
  a : ∀ i t, i < j → S[i]? = some t → w.cell? ⟨g, i * 2, none⟩ = some (.int .i64 t.sz) ∧ w.cell? ⟨g, i * 2 + 1, none⟩ = some (.int .i64 t.of)
  b : ∀ o, o < n * 2 → ∃ v, w.cell? ⟨g, o, none⟩ = some v
  f : ∀ o, w.frozen? ⟨g, o, none⟩ = false
def RfPost (k R H : Nat) (Z : Option (St × Int)) (w : World) (r : Ending) (w' : World) : Prop := match Z with
  | none => r = .returned (.int .i64 73) ∧ Kp R H w w'
  | some (s, c) => r = .returned (.int .i64 0) ∧ Kp R H w w' ∧ SRow k w' R H s c
set_option maxRecDepth 100000 in
set_option maxHeartbeats 8000000 in
theorem refill_any (k fk R N : Nat) (l : List Rm) (os : List Int) (pp po : Option Addr) (cp co : Nat) (b : Int) (w : World) (hC : RC w R zV) (hone : ∀ H, One k fk R H N) (hen : ∀ ag w, (callFunc fk ag).run Try.prog w = .ok (.enter fk ag) w)
    (hr : SlR w pp w.heap.size l) (hro : SlZ w po w.heap.size os) (hpR : R < w.heap.size) (hl : l.length ≤ N) (hN : N ≤ 8796093021952) (hm : os.length ≤ 17592186043904) (hx : ∀ x ∈ l, x.ok) (hxo : ∀ o ∈ os, i64ok o) :
    Calls Try.prog 30 #[.pointer (some ⟨R, 0, none⟩), .slice pp l.length cp, .slice po os.length co, .func (.func fk) #[.pointer (some ⟨R, 0, none⟩)] #[], .int .i64 b] w (RfPost k R w.heap.size (refillZ k l os b) w) := by
  obtain ⟨Z, hZ⟩ : ∃ Z, refillZ k l os b = Z := ⟨_, rfl⟩
  rw [hZ]
  unfold refillZ at hZ
  by_cases b1 : b < 0
  · rw [if_pos (.inl b1)] at hZ
    subst hZ
    go_enter Try.func30, Try.ntmps30
    go_wp2_with fail
    go_ret
    exact ⟨rfl, Kp.refl _ _ _⟩
  by_cases b2 : l.length = os.length
  · have b2' : (l.length : Int) = os.length := by omega
    have b2b : ((l.length : Int) == (os.length : Int)) = true := beq_iff_eq.2 b2'
    have b2c : ((l.length : Int) != (os.length : Int)) = false := by rw [bne, b2b]; rfl
    have b2h : Hid (l.length = os.length) := ⟨b2⟩
    obtain ⟨i0, hi, hz, hsi, hby⟩ := infoR
    have hmk := run_make (P := Try.prog) w 23 35 i0 (.agg #[.int .i64 0, .int .i64 0]) Try.underlying23 hi hz .i64 .i64 (l.length : Int) (l.length : Int) (by omega) (Int.le_refl _) (by rw [hby]; omega) (by omega)
    rw [Int.toNat_natCast] at hmk
    generalize hMd : madeCells (Value.agg #[.int .i64 0, .int .i64 0]).cells (l.length * i0.size) = Md at hmk
    have hMs : Md.size = l.length * 2 := by rw [← hMd, size_madeCells, hsi]
    obtain ⟨S, hS⟩ : ∃ S, seatsL l os = S := ⟨_, rfl⟩
    have hSl : S.length = l.length := by rw [← hS]; unfold seatsL; rw [List.length_zipWith]; omega
    have hSat : ∀ (j : Nat) (x : Rm) (o : Int), l[j]? = some x → os[j]? = some o → S[j]? = some (⟨x.sz, o⟩ : Rm) := fun j x o h1 h2 => by rw [← hS]; unfold seatsL; rw [List.getElem?_zipWith, h1, h2]
    have hSok : ∀ x ∈ S, x.ok := by
      rw [← hS]
      intro y hy
      obtain ⟨i, hi⟩ := List.mem_iff_getElem?.1 hy
      unfold seatsL at hi
      rw [List.getElem?_zipWith] at hi
      cases h1 : l[i]? with
      | none => rw [h1] at hi; cases hi
      | some x =>
        cases h2 : os[i]? with
        | none => rw [h1, h2] at hi; cases hi
        | some o =>
          rw [h1, h2] at hi
          cases hi
          exact ⟨(hx x (List.mem_of_getElem? h1)).1, hxo o (List.mem_of_getElem? h2)⟩
    rw [hS] at hZ
    have hBm := bel1 w (.cells Md 35)
    have hseat0 : Seat (w.alloc (.cells Md 35)) w.heap.size l.length 0 S := by
      refine ⟨fun i t h => by omega, fun o ho => ?_, fun o => by simp only [World.frozen?, heap_new]; simp⟩
      rw [cell_lit (heap_new w _) o]
      exact ⟨Md[o]'(by omega), Array.getElem?_eq_getElem (by omega)⟩
    have hsm : (w.alloc (.cells Md 35)).heap.size = w.heap.size + 1 := by rw [World.size_alloc]
    clear b2 b2' hMd hMs hi hz hsi hby hS
    go_enter Try.func30, Try.ntmps30
    go_wp2_with fail
    go_loopw [30] (fun n wr => ∃ (j : Nat), j ≤ os.length ∧ n = .int .i64 j ∧ Seat wr w.heap.size l.length j S ∧ Below w.heap.size w wr ∧ wr.heap.size = w.heap.size + 1 ∧ ∀ o ∈ os.take j, 0 ≤ o) (fun n _ => os.length - (RowKit.intOf n).toNat)
    case atStart => exact ⟨0, Nat.zero_le _, by go_num, hseat0, hBm, hsm, fun o ho => by simp at ho⟩
    case round =>
      obtain ⟨j, hj, rfl, hSe, hB, hsz, hnn⟩ := hrel
      by_cases hlt : j < os.length
      · obtain ⟨o, hoj⟩ : ∃ o, os[j]? = some o := ⟨os[j], List.getElem?_eq_getElem hlt⟩
        obtain ⟨x, hxj⟩ : ∃ x, l[j]? = some x := ⟨l[j]'(by have := b2h.out; omega), List.getElem?_eq_getElem (by have := b2h.out; omega)⟩
        obtain ⟨g1, o1, rfl, _, q1⟩ := (hro.row.below hB).c j o hoj
        obtain ⟨g2, o2, rfl, hg2, q2, _⟩ := (hr.row.below hB).c j x hxj
        have hlti : (j : Int) < os.length := by omega
        have hltl : (j : Int) < l.length := by have := b2h.out; omega
        have hltn : j < l.length := by have := b2h.out; omega
        by_cases hneg : o < 0
        · rw [if_pos (.inr (.inr ⟨o, List.mem_of_getElem? hoj, hneg⟩))] at hZ
          subst hZ
          go_wp2_with fail
          go_ret
          exact ⟨rfl, Kp.of hB⟩
        · obtain ⟨v0, c0⟩ := hSe.b (j * 2) (by omega)
          obtain ⟨v1, c1⟩ := hSe.b (j * 2 + 1) (by omega)
          have f0 := hSe.f (j * 2)
          have f1 := hSe.f (j * 2 + 1)
          have ne1 : (⟨w.heap.size, j * 2, none⟩ : Addr) ≠ ⟨w.heap.size, j * 2 + 1, none⟩ := fun e => by injection e with _ e; omega
          have c1b : (wr.setCell ⟨w.heap.size, j * 2, none⟩ (.int .i64 x.sz)).cell? ⟨w.heap.size, j * 2 + 1, none⟩ = some v1 := (World.cell?_setCell_other wr _ _ _ ne1).trans c1
          have f1b : (wr.setCell ⟨w.heap.size, j * 2, none⟩ (.int .i64 x.sz)).frozen? ⟨w.heap.size, j * 2 + 1, none⟩ = false := by rw [World.frozen?_setCell]; exact f1
          have HX : Hid (Seat ((wr.setCell ⟨w.heap.size, j * 2, none⟩ (.int .i64 x.sz)).setCell ⟨w.heap.size, j * 2 + 1, none⟩ (.int .i64 o)) w.heap.size l.length (j + 1) S ∧ Below w.heap.size w ((wr.setCell ⟨w.heap.size, j * 2, none⟩ (.int .i64 x.sz)).setCell ⟨w.heap.size, j * 2 + 1, none⟩ (.int .i64 o)) ∧ ((wr.setCell ⟨w.heap.size, j * 2, none⟩ (.int .i64 x.sz)).setCell ⟨w.heap.size, j * 2 + 1, none⟩ (.int .i64 o)).heap.size = w.heap.size + 1) := by
            have e0 : ((wr.setCell ⟨w.heap.size, j * 2, none⟩ (.int .i64 x.sz)).setCell ⟨w.heap.size, j * 2 + 1, none⟩ (.int .i64 o)).cell? ⟨w.heap.size, j * 2, none⟩ = some (.int .i64 x.sz) := (World.cell?_setCell_other _ _ _ _ ne1.symm).trans (World.cell?_setCell_same wr _ _ c0)
            have e1 : ((wr.setCell ⟨w.heap.size, j * 2, none⟩ (.int .i64 x.sz)).setCell ⟨w.heap.size, j * 2 + 1, none⟩ (.int .i64 o)).cell? ⟨w.heap.size, j * 2 + 1, none⟩ = some (.int .i64 o) := World.cell?_setCell_same _ _ _ c1b
            have eo : ∀ q, q ≠ j * 2 → q ≠ j * 2 + 1 → ((wr.setCell ⟨w.heap.size, j * 2, none⟩ (.int .i64 x.sz)).setCell ⟨w.heap.size, j * 2 + 1, none⟩ (.int .i64 o)).cell? ⟨w.heap.size, q, none⟩ = wr.cell? ⟨w.heap.size, q, none⟩ := fun q h1 h2 =>
              (World.cell?_setCell_other _ _ _ _ (fun e => by injection e with _ e; omega)).trans (World.cell?_setCell_other _ _ _ _ (fun e => by injection e with _ e; omega))
            refine ⟨⟨fun i t hi ht => ?_, fun q hq => ?_, fun q => by rw [World.frozen?_setCell, World.frozen?_setCell]; exact hSe.f q⟩, ⟨hB.os, hB.tape, hB.output, by have := hB.size; simp [World.setCell]; omega, fun q hq => (Below.heap_setCell _ _ _ _ (show q ≠ w.heap.size by omega)).trans ((Below.heap_setCell _ _ _ _ (show q ≠ w.heap.size by omega)).trans (hB.block q hq))⟩, by simp [World.setCell]; omega⟩
            · by_cases hij : i = j
              · subst hij
                rw [hSat i x o hxj hoj] at ht
                cases ht
                exact ⟨e0, e1⟩
              · rw [eo _ (by omega) (by omega), eo _ (by omega) (by omega)]
                exact hSe.a i t (by omega) ht
            · by_cases h1 : q = j * 2
              · subst h1; exact ⟨_, e0⟩
              · by_cases h2 : q = j * 2 + 1
                · subst h2; exact ⟨_, e1⟩
                · rw [eo q h1 h2]; exact hSe.b q hq
          have hnn2 : ∀ y ∈ os.take (j + 1), 0 ≤ y := by
            intro y hy
            rw [List.take_add_one, hoj] at hy
            rcases List.mem_append.1 hy with h | h
            · exact hnn y h
            · simp at h; omega
          clear hSe hB hZ
          go_wp2_with fail
          go_roundw
          case rel => exact ⟨j + 1, by omega, by go_num, HX.out.1, HX.out.2.1, HX.out.2.2, hnn2⟩
          case measure => simp [RowKit.intOf]; omega
      · obtain rfl : j = os.length := by omega
        rw [if_neg (by
          rintro (h | h | ⟨o, ho, hn⟩)
          · omega
          · exact h b2h.out
          · have := hnn o (by rw [List.take_length]; exact ho); omega)] at hZ
        have hrow : RmRow wr (some ⟨w.heap.size, 0, none⟩) wr.heap.size S := ⟨fun i t ht => by
          have hi : i < os.length := by rw [← b2h.out, ← hSl]; exact (List.getElem?_eq_some_iff.1 ht).1
          obtain ⟨h0, h1⟩ := hSe.a i t hi ht
          exact ⟨_, 0, rfl, by omega, by rw [Nat.zero_add]; exact h0, by rw [Nat.zero_add]; exact h1⟩⟩
        have cF := fill_any k fk R N S (some ⟨w.heap.size, 0, none⟩) l.length b wr (hC.below hB) (hone _) hen hrow (fun _ a ha => by cases ha; show w.heap.size ≠ R; omega) (by omega) hN hSok
        rw [hSl] at cF
        have hfn := fillZ_none k S b
        unfold FillPost at cF
        rw [hZ] at cF hfn
        generalize (fillZ k S b).1 = er at cF hfn
        generalize (fillZ k S b).2.1 = who at cF
        cases Z with
        | none =>
          have her : er ≠ 0 := by
            rcases hfn with ⟨_, h⟩ | ⟨p, h, _⟩
            · exact h
            · cases h
          have hb1 : (er == 0) = false := beq_eq_false_iff_ne.2 her
          have hb2 : (er != 0) = true := by rw [bne, hb1]; rfl
          have cF2 : Calls Try.prog 28 #[.pointer (some ⟨R, 0, none⟩), .slice (some ⟨w.heap.size, 0, none⟩) l.length l.length, .func (.func fk) #[.pointer (some ⟨R, 0, none⟩)] #[], .int .i64 b] wr fun r w1 => r = .returned (.tuple #[.int .i64 er, .int .i64 (who : Int)]) ∧ Hid (Kp R w.heap.size w w1) :=
            cF.mono fun r w1 ⟨h0, hK, _⟩ => ⟨h0, ⟨(Kp.of hB).trans (hK.mono (by omega))⟩⟩
          clear cF hrow hSe hfn hone
          go_wp2_with fail
          refine cF2.mono ?_
          rintro _ w1 ⟨rfl, HK⟩
          go_wp2_with fail
          go_ret
          exact ⟨rfl, HK.out⟩
        | some p =>
          obtain ⟨s, c⟩ := p
          obtain rfl : er = 0 := by
            rcases hfn with ⟨h, _⟩ | ⟨p, _, h⟩
            · cases h
            · exact h
          have cF2 : Calls Try.prog 28 #[.pointer (some ⟨R, 0, none⟩), .slice (some ⟨w.heap.size, 0, none⟩) l.length l.length, .func (.func fk) #[.pointer (some ⟨R, 0, none⟩)] #[], .int .i64 b] wr fun r w1 => r = .returned (.tuple #[.int .i64 0, .int .i64 (who : Int)]) ∧ Hid (Kp R w.heap.size w w1 ∧ SRow k w1 R w.heap.size s c) :=
            cF.mono fun r w1 ⟨h0, hK, hS⟩ => ⟨h0, ⟨(Kp.of hB).trans (hK.mono (by omega)), hS.mono (by omega)⟩⟩
          clear cF hrow hSe hfn hone
          go_wp2_with fail
          refine cF2.mono ?_
          rintro _ w1 ⟨rfl, HK⟩
          go_wp2_with fail
          go_ret
          exact ⟨rfl, HK.out.1, HK.out.2⟩
  · rw [if_pos (.inr (.inl b2))] at hZ
    subst hZ
    have b2' : ¬ (l.length : Int) = os.length := by omega
    have b2b : ((l.length : Int) == (os.length : Int)) = false := beq_eq_false_iff_ne.2 b2'
    have b2c : ((l.length : Int) != (os.length : Int)) = true := by rw [bne, b2b]; rfl
    go_enter Try.func30, Try.ntmps30
    go_wp2_with fail
    go_ret
    exact ⟨rfl, Kp.refl _ _ _⟩
end Go.Proofs.Ytjdinlgbfpkodaa

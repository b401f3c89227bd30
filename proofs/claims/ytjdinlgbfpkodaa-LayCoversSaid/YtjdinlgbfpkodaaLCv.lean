/- The law LayCovers. -/
import Derived.Test.YtjdinlgbfpkodaaLCvM
import Derived.Test.YtjdinlgbfpkodaaLMk0
namespace Go.Proofs.Ytjdinlgbfpkodaa
open Go.ChangeShapes Go.WideShapes Go.ChangeAt Go.RowKit Go.Shelf

set_option maxRecDepth 100000 in
set_option maxHeartbeats 16000000 in
theorem LayCovers_any (l : List Rm) (pp : Option Addr) (cp : Nat) (more : Int) (w : World) (hr : SlR w pp w.heap.size l) (hl : l.length ≤ 8796093021952) (hx : ∀ x ∈ l, x.ok) :
    Calls Try.prog 6 #[.slice pp l.length cp, .int .i64 more] w fun r w' => r = .returned (.bool true) ∧ Below w.heap.size w w' := by
  have cM := fun W (h : SlR W pp W.heap.size l) => made_any l pp cp W h hl hx
  have hT : 0 ≤ more % 100 ∧ more % 100 < 100 := by omega
  have m1 := fun W => mod_any more 100 (by decide) (by decide) W
  generalize more % 100 = T at m1 hT
  have hb := madeZ_b l
  have hok := madeZ_ok l
  have hat := madeZ_at_b l
  have hLE := laidE_made l ((madeZ l).2.2 + T) (by omega) (by omega)
  generalize madeZ l = Z at cM hb hok hat hLE
  obtain ⟨L, A, E⟩ := Z
  dsimp only at cM hb hok hat hLE
  obtain ⟨hE0, hE1, hL60, hLA⟩ := hb
  have hAk : ∀ o ∈ A, i64ok o := fun o ho => by have := hat o ho; unfold i64ok; omega
  obtain ⟨B, hB⟩ : ∃ B : Nat, E + T = (B : Int) := ⟨(E + T).toNat, by omega⟩
  have hBb : B ≤ 6600 := by omega
  have hEB : E ≤ (B : Int) := by omega
  rw [hB] at hLE
  obtain ⟨-, -, -, hLR, -, -⟩ := laidE_some hLE
  have hgz : gapsZ L A (B : Int) = (gapsR L A 0 (B : Int), 0) := by rw [gapsZ_laid, hLE]
  have hgl := gapsR_len (B : Int) L A 0
  have hGok := gaps_ok (B : Int) L A (-1) 0 0 E hLR hEB (by decide) (by decide)
  have hcov := fun p => cover (B : Int) L A 0 0 E p hLR hEB (by decide)
  have hlow := atR_none (inR_low L A 0 E (-1) hLR (by decide))
  have hhi1 := atR_none (inR_high L A 0 E (B : Int) hLR hEB)
  have hhi2 := atR_none (inR_high L A 0 E ((B : Int) + 1000) hLR (by omega))
  have hsp := fun p => atR_spec L A p 0
  have hsum : ∀ (i : Nat) (x : Rm) (o : Int), L[i]? = some x → A[i]? = some o → -9223372036854775808 ≤ o + x.sz ∧ o + x.sz ≤ 9223372036854775807 := fun i x o h1 h2 => by have := laid_at L A 0 E i x o hLR h1 h2; omega
  have cG : ∀ W pX cX pY cY, SlR W pX W.heap.size L → SlZ W pY W.heap.size A → Calls Try.prog 20 #[.slice pX L.length cX, .slice pY A.length cY, .int .i64 (B : Int)] W fun r w' => ∃ v, r = .returned (.tuple #[v, .int .i64 0]) ∧ ROwn w' W.heap.size v (gapsR L A 0 (B : Int)) ∧ Below W.heap.size W w' := fun W pX cX pY cY h1 h2 => by
    have := Gaps_any L A pX pY cX cY (B : Int) W h1 h2 (by omega) (by omega) hok hAk
    rw [hgz] at this
    exact this
  have cA := fun (p : Int) (hp : i64ok p) W pX cX pY cY h1 h2 => At_any L A pX pY cX cY p W h1 h2 (by omega) (by omega) hok hAk hp
  have hgok : ∀ x ∈ gapsR L A 0 (B : Int), True := fun _ _ => trivial
  generalize gapsR L A 0 (B : Int) = GA at hgl hGok hcov cG hgok
  obtain ⟨i0, hi, hz, hsi, hby⟩ := infoBl
  have hmk := fun (w : World) => run_make (P := Try.prog) w 46 4 i0 (.bool false) Try.underlying46 hi hz .i64 .i64 (B : Int) (B : Int) (by omega) (Int.le_refl _) (by rw [hby]; omega) (by omega)
  simp only [Int.toNat_natCast, hsi, Nat.mul_one] at hmk
  have hmc : (Value.bool false).cells = #[.bool false] := rfl
  rw [hmc] at hmk
  have hA0 := fun (w : World) => Arr.make (w := w) (B := B) (ty := 4)
  generalize hMd : madeCells #[Value.bool false] B = Md at hmk hA0
  have cF := fixed_any
  have hLAH : Hid (A.length = L.length) := ⟨hLA⟩
  have hA60 : A.length ≤ 60 := by omega
  clear hMd hi hz hsi hby hmc hgz hLE hgok hLA hat hLR
  go_enter Try.func6, Try.ntmps6
  go_wp2_with (first
    | (go_at_call 13; refine (cF _).mono ?_; rintro _ w0 ⟨rfl, hB0⟩; have c1 := cM w0 (hr.up hB0))
    | (go_at_call 9; refine c1.mono ?_; rintro _ w1 ⟨v1, u1, rfl, hO1, hZ1, hB1⟩; obtain ⟨pL, cL, rfl, s1⟩ := hO1.sl; obtain ⟨pA, cA', rfl, z1⟩ := hZ1.sl; have c2 := rooms_any L pL cL w1 s1 (by omega))
    | (go_at_call 14; refine (m1 _).mono ?_; rintro _ w' ⟨rfl, hw'⟩; replace hw' := hw'.symm; subst hw')
    | (go_at_call 11; refine c2.mono ?_; rintro _ w2 ⟨v2, rfl, hO2, hB2⟩; obtain ⟨px, cx, rfl, s2⟩ := hO2.sl; have c3 := ints_any A pA cA' w2 (z1.up hB2) (by omega))
    | (go_at_call 18; refine c3.mono ?_; rintro _ w3 ⟨v3, rfl, hO3, hB3⟩; obtain ⟨py, cy, rfl, s3⟩ := hO3.sl; have c4 := cG w3 px cx py cy (s2.up hB3) s3)
    | (go_at_call 20; refine c4.mono ?_; rintro _ w4 ⟨v4, rfl, hO4, hB4⟩; obtain ⟨pg, cg, rfl, s4⟩ := hO4.sl)
    | (go_at_call 12; refine (num_any _ _).mono ?_; rintro _ w' ⟨rfl, hw'⟩; replace hw' := hw'.symm; subst hw'))
  obtain ⟨w5, hw5⟩ : ∃ w5, w5 = w4.alloc (.cells Md 4) := ⟨_, rfl⟩
  have hA := hA0 w4
  have hBal := bel1 w4 (.cells Md 4)
  rw [← hw5] at hA hBal
  rw [← hw5]
  have hs5 : w5.heap.size = w4.heap.size + 1 := by rw [hw5, World.size_alloc]
  have HBw : Hid (Below w.heap.size w w4) := ⟨hB0.trans ((hB1.mono hB0.size).trans ((hB2.mono (Nat.le_trans hB0.size hB1.size)).trans ((hB3.mono (Nat.le_trans hB0.size (Nat.le_trans hB1.size hB2.size))).trans (hB4.mono (Nat.le_trans hB0.size (Nat.le_trans hB1.size (Nat.le_trans hB2.size hB3.size)))))))⟩
  have sL : SlR w4 pL w4.heap.size L := ((s1.up hB2).up hB3).up hB4
  have sA : SlZ w4 pA w4.heap.size A := ((z1.up hB2).up hB3).up hB4
  have hws : w.heap.size ≤ w4.heap.size := HBw.out.size
  clear hw5 hmk hA0 hO1 hZ1 hO2 hO3 hO4 s1 z1 s2 s3 c1 c2 c3 c4 cM cG cF m1 hB0 hB1 hB2 hB3 hB4 hr hx
  have hrowG : RmRow w4 pg w4.heap.size GA := s4.row
  have hrowL : RmRow w4 pL w4.heap.size L := sL.row
  have hrowA : ZRow w4 pA w4.heap.size A := sA.row
  clear s4 sL sA
  go_loopw [12, 13] (fun la n wr => ∃ (i d : Nat) (last : Int), i ≤ GA.length ∧ n = .int .i64 i ∧ la = .int .i64 last ∧ -1 ≤ last ∧ last ≤ 6600 ∧ Hid (Gok (B : Int) last (GA.drop i)) ∧ Hid (Arr wr w4.heap.size B (fun q => inG (GA.take i) q)) ∧ Below w4.heap.size w4 wr ∧ wr.heap.size = w4.heap.size + 1) (fun _ n _ => GA.length - (RowKit.intOf n).toNat)
  case atStart => exact ⟨0, 0, -1, Nat.zero_le _, by go_num, by go_num, by decide, by decide, ⟨hGok⟩, ⟨hA.cong fun q _ => by simp [inG]⟩, hBal, hs5⟩
  case round =>
    rename World => wo
    obtain ⟨i, _, last, hi, rfl, rfl, hl0, hl1, HG, HA, hBo, hszo⟩ := hrel
    by_cases hlt : i < GA.length
    · obtain ⟨x, hxj⟩ : ∃ x, GA[i]? = some x := ⟨GA[i], List.getElem?_eq_getElem hlt⟩
      have hG2 := HG.out
      rw [drop_at hxj] at hG2
      obtain ⟨k1, k2, k3, k4⟩ := hG2
      have hup := fun p => inG_take GA i x p hxj
      obtain ⟨g1, o1, rfl, hg1, q1, q2⟩ := hrowG.c i x hxj
      obtain ⟨sz, of_⟩ := x
      dsimp only at k1 k2 k3 k4 hup q1 q2
      have HG2 : Hid (Gok (B : Int) (of_ + sz) (GA.drop (i + 1))) := ⟨k4⟩
      have r1 : wo.cell? ⟨g1, o1 + i * 2, none⟩ = some (.int .i64 sz) := (hBo.cell (p := ⟨g1, o1 + i * 2, none⟩) hg1).trans q1
      have r2 : wo.cell? ⟨g1, o1 + i * 2 + 1, none⟩ = some (.int .i64 of_) := (hBo.cell (p := ⟨g1, o1 + i * 2 + 1, none⟩) hg1).trans q2
      have hlti : (i : Int) < GA.length := by omega
      have n1 : ¬ sz < 1 := by omega
      have n2 : ¬ of_ ≤ last := by omega
      have n3 : ¬ (B : Int) < sz := by omega
      have n4 : ¬ (B : Int) - sz < of_ := by omega
      have hw1 : IntKind.i64.wrap ((B : Int) - sz) = (B : Int) - sz := by rw [IntKind.wrap_i64]; omega
      have m1 : decide (sz < 1) = false := decide_eq_false n1
      have m2 : decide (of_ ≤ last) = false := decide_eq_false n2
      have m3 : decide ((B : Int) < sz) = false := decide_eq_false n3
      have m4 : decide ((B : Int) - sz < of_) = false := decide_eq_false n4
      have hk3 : of_ + sz ≤ B := by omega
      have hk1 : 0 ≤ of_ := by omega
      clear k4 HG hxj hcov hsp hlow hhi1 hhi2 hGok cA
      go_wp2_with fail
      go_big_quiet (fail)
      go_wp2_with fail
      clear n1 n2 n3 n4 m1 m2 m3 m4 hw1
      obtain ⟨O, rfl⟩ : ∃ O : Nat, of_ = O := ⟨of_.toNat, by omega⟩
      obtain ⟨S, rfl⟩ : ∃ S : Nat, sz = S := ⟨sz.toNat, by omega⟩
      have hk4 : O + S ≤ B := by omega
      clear k1 k2 k3 hk1
      go_loopw [14] (fun n wr => ∃ (k : Nat), k ≤ S ∧ n = .int .i64 k ∧ Hid (Arr wr w4.heap.size B (fun q => inG (GA.take i) q || decide ((O : Int) ≤ q ∧ q < (O : Int) + k))) ∧ Below w4.heap.size w4 wr ∧ wr.heap.size = w4.heap.size + 1) (fun n _ => S - (RowKit.intOf n).toNat)
      case atStart => exact ⟨0, Nat.zero_le _, by go_num, ⟨Arr.same (w' := wo.drewN nq) (HA.out.cong fun q _ => by rw [decide_eq_false (by omega), Bool.or_false]) rfl (Nat.le_refl _)⟩, tdr hBo, hszo⟩
      case round =>
        obtain ⟨k, hk, rfl, HA2, hB3, hsz3⟩ := hrel
        have t1 : wr.cell? ⟨g1, o1 + i * 2, none⟩ = some (.int .i64 (S : Int)) := (hB3.cell (p := ⟨g1, o1 + i * 2, none⟩) hg1).trans q1
        have t2 : wr.cell? ⟨g1, o1 + i * 2 + 1, none⟩ = some (.int .i64 (O : Int)) := (hB3.cell (p := ⟨g1, o1 + i * 2 + 1, none⟩) hg1).trans q2
        by_cases hks : k < S
        · have hksi : (k : Int) < S := by omega
          have hOk : O + k < B := by omega
          have hOki : (O : Int) + k < B := by omega
          have c0 := HA2.out.c (O + k) hOk
          have f0 := HA2.out.fz (O + k)
          have hcast : ((O : Int) + (k : Int)).toNat = O + k := by omega
          have HA3 : Hid (Arr (wr.setCell ⟨w4.heap.size, O + k, none⟩ (.bool true)) w4.heap.size B (fun q => inG (GA.take i) q || decide ((O : Int) ≤ q ∧ q < (O : Int) + (k + 1 : Nat)))) := ⟨(HA2.out.set hOk).cong fun q hq => by
            rw [Bool.or_assoc]
            congr 1
            by_cases h : (O : Int) ≤ q ∧ (q : Int) < (O : Int) + k
            · rw [decide_eq_true h, decide_eq_true (show (O : Int) ≤ q ∧ (q : Int) < (O : Int) + (k + 1 : Nat) by omega)]; rfl
            · rw [decide_eq_false h, Bool.false_or]
              by_cases h2 : (q : Int) = ((O + k : Nat) : Int)
              · rw [decide_eq_true h2, decide_eq_true (by omega)]
              · rw [decide_eq_false h2, decide_eq_false (by omega)]⟩
          have HB3 : Hid (Below w4.heap.size w4 (wr.setCell ⟨w4.heap.size, O + k, none⟩ (.bool true)) ∧ (wr.setCell ⟨w4.heap.size, O + k, none⟩ (.bool true)).heap.size = w4.heap.size + 1) := ⟨⟨hB3.os, hB3.tape, hB3.output, by have := hB3.size; simp [World.setCell]; omega, fun q hq => (Below.heap_setCell _ _ _ _ (show q ≠ w4.heap.size by omega)).trans (hB3.block q hq)⟩, by simp [World.setCell]; omega⟩
          generalize (inG (GA.take i) ((O + k : Nat) : Int) || decide ((O : Int) ≤ ((O + k : Nat) : Int) ∧ ((O + k : Nat) : Int) < (O : Int) + (k : Int))) = bv at c0
          clear HA2 hB3 hup
          go_wp2_with fail
          go_roundw
          case rel => exact ⟨k + 1, by omega, by go_num, HA3, HB3.out.1, HB3.out.2⟩
          case measure => simp [RowKit.intOf]; omega
        · obtain rfl : k = S := by omega
          have HA3 : Hid (Arr wr w4.heap.size B (fun q => inG (GA.take (i + 1)) q)) := ⟨HA2.out.cong fun q _ => (hup q).symm⟩
          have hw1 : IntKind.i64.wrap ((O : Int) + k) = (O : Int) + k := by rw [IntKind.wrap_i64]; omega
          clear HA2 hup HA r1 r2
          go_wp2_with fail
          go_quiet (fail)
          go_wp2_with fail
          go_roundw
          case rel => exact ⟨i + 1, 0, (O : Int) + k, by omega, by go_num, rfl, by omega, by omega, HG2, ⟨HA3.out.same rfl (Nat.le_refl _)⟩, tdr hB3, hsz3⟩
          case measure => simp [RowKit.intOf]; omega
    · obtain rfl : i = GA.length := by omega
      have HF : Hid (Arr wo w4.heap.size B (fun p => decide (0 ≤ p ∧ p < (B : Int)) && !inR L A p)) := ⟨HA.out.cong fun q _ => by rw [List.take_length]; exact hcov q⟩
      clear HA HG hcov hGok
      go_wp2_with fail
      have hAt : ∀ (d : Nat) (W : World) (p : Int), i64ok p → W = wo.drewN d → Calls Try.prog 21 #[.slice pL L.length cL, .slice pA A.length cA', .int .i64 p] W fun r w' => r = .returned (.int .i64 (atR L A p 0)) ∧ ∃ n, w' = wo.drewN n := fun d W p hp hW => by
        subst hW
        refine (cA p hp (wo.drewN d) pL cL pA cA' ⟨((hrowL.below hBo).mono (show w4.heap.size ≤ wo.heap.size by omega)).below (tdr (Below.refl _ wo))⟩ ⟨((hrowA.below hBo).mono (show w4.heap.size ≤ wo.heap.size by omega)).below (tdr (Below.refl _ wo))⟩).mono ?_
        rintro r w' ⟨h0, n, hn⟩
        exact ⟨h0, d + n, by rw [hn]; exact drewN_add _ _ _⟩
      have HBo : Hid (∀ d, Below w.heap.size w (wo.drewN d)) := ⟨fun d => tdr (HBw.out.trans (hBo.mono hws))⟩
      clear cA
      go_loopw [15] (fun n wr => ∃ (p d : Nat), p ≤ B ∧ n = .int .i64 p ∧ Hid (wr = wo.drewN d)) (fun n _ => B - (RowKit.intOf n).toNat)
      case atStart => exact ⟨0, 0, Nat.zero_le _, by go_num, ⟨rfl⟩⟩
      case round =>
        obtain ⟨p, d, hp, rfl, hd⟩ := hrel
        by_cases hpB : p < B
        · have hpBi : (p : Int) < B := by omega
          have c9 := hAt d wr (p : Int) ⟨by omega, by omega⟩ hd.out
          have f9 := HF.out.c p hpB
          rw [decide_eq_true (show 0 ≤ (p : Int) ∧ (p : Int) < B by omega), Bool.true_and] at f9
          rcases hsp (p : Int) with ⟨a1, a2⟩ | ⟨i, x, o, a1, a2, a3, a4, a5, a6⟩
          · rw [a1] at c9
            rw [a2] at f9
            clear hsp hlow hhi1 hhi2 hAt a1 a2 hrowG hrowL hrowA
            go_wp2_with fail
            refine c9.mono ?_
            rintro _ w9 ⟨rfl, n9, hn9⟩
            have r9 : w9.cell? ⟨w4.heap.size, p, none⟩ = some (.bool true) := by rw [hn9]; exact f9
            have hn9' : Hid (w9 = wo.drewN n9) := ⟨hn9⟩
            clear hn9 c9 f9
            go_wp2_with fail
            go_big_quiet (fail)
            go_wp2_with fail
            go_roundw
            case rel => exact ⟨p + 1, n9 + nq, by omega, by go_num, ⟨by rw [hn9'.out]; exact drewN_add _ _ _⟩⟩
            case measure => simp [RowKit.intOf]; omega
          · rw [a1, Nat.zero_add] at c9
            rw [a6] at f9
            have hiL : i < L.length := (List.getElem?_eq_some_iff.1 a2).1
            have hiA : i < A.length := (List.getElem?_eq_some_iff.1 a3).1
            obtain ⟨g1, o1, rfl, hg1, q1, _⟩ := (hrowL.below hBo).c i x a2
            obtain ⟨g2, o2, rfl, hg2, q2⟩ := (hrowA.below hBo).c i o a3
            obtain ⟨sz, _⟩ := x
            dsimp only at q1 a5
            have hxk := (hok _ (List.mem_of_getElem? a2)).1
            have hok2 := hAk o (List.mem_of_getElem? a3)
            obtain ⟨z1, z2⟩ := hxk
            obtain ⟨z3, z4⟩ := hok2
            obtain ⟨I, hI⟩ : ∃ I : Int, I = (i : Int) := ⟨_, rfl⟩
            rw [← hI] at c9
            have hI0 : 0 ≤ I := by omega
            have hIn : ¬ I < 0 := by omega
            have hInd : decide (I < 0) = false := decide_eq_false hIn
            have hIt : I.toNat = i := by omega
            have hiLi : I < L.length := by omega
            have hiAi : I < A.length := by omega
            have n0 : (I == -1) = false := beq_eq_false_iff_ne.2 (by omega)
            have n0b : (I != -1) = true := by rw [bne, n0]; rfl
            have n1i : ¬ (L.length : Int) ≤ I := by omega
            have m1i : decide ((L.length : Int) ≤ I) = false := decide_eq_false n1i
            have n2 : ¬ (p : Int) < o := by omega
            have m2 : decide ((p : Int) < o) = false := decide_eq_false n2
            have hsm : -9223372036854775808 ≤ o + sz ∧ o + sz ≤ 9223372036854775807 := hsum i _ o a2 a3
            have n3 : ¬ o + sz ≤ (p : Int) := by omega
            have m3 : decide (o + sz ≤ (p : Int)) = false := decide_eq_false n3
            have hw1 : IntKind.i64.wrap (o + sz) = o + sz := by rw [IntKind.wrap_i64]; omega
            clear hsp hlow hhi1 hhi2 hAt a1 a2 a3 a6 hrowG hrowL hrowA
            go_wp2_with fail
            refine c9.mono ?_
            rintro _ w9 ⟨rfl, n9, hn9⟩
            have r9 : w9.cell? ⟨w4.heap.size, p, none⟩ = some (.bool false) := by rw [hn9]; exact f9
            have r1 : w9.cell? ⟨g1, o1 + I.toNat * 2, none⟩ = some (.int .i64 sz) := by rw [hn9, hIt]; exact q1
            have r2 : w9.cell? ⟨g2, o2 + I.toNat, none⟩ = some (.int .i64 o) := by rw [hn9, hIt]; exact q2
            have hn9' : Hid (w9 = wo.drewN n9) := ⟨hn9⟩
            clear hn9 c9 f9 q1 q2 hI hIt
            go_wp2_with fail
            go_big_quiet (fail)
            go_wp2_with fail
            go_roundw
            case rel => exact ⟨p + 1, n9 + nq, by omega, by go_num, ⟨by rw [hn9'.out]; exact drewN_add _ _ _⟩⟩
            case measure => simp [RowKit.intOf]; omega
        · obtain rfl : p = B := by omega
          have e1 := hAt d wr (-1) ⟨by decide, by decide⟩ hd.out
          have e2 := fun W n (h : W = wo.drewN n) => hAt n W (p : Int) ⟨by omega, by omega⟩ h
          have e3 := fun W n (h : W = wo.drewN n) => hAt n W ((p : Int) + 1000) ⟨by omega, by omega⟩ h
          rw [hlow] at e1
          rw [hhi1] at e2
          rw [hhi2] at e3
          have F1 : Hid (1 = 1) := ⟨rfl⟩
          have F2 : Hid (1 = 1) := ⟨rfl⟩
          clear hsp hlow hhi1 hhi2 hAt hrowG hrowL hrowA
          go_wp2_with (first
            | (clear F1; go_at_call 21; refine e1.mono ?_; rintro _ w7 ⟨rfl, n7, hn7⟩; have x2 := e2 w7 n7 hn7; clear hn7)
            | (clear F2; go_at_call 21; refine x2.mono ?_; rintro _ w8 ⟨rfl, n8, hn8⟩; have x3 := e3 w8 n8 hn8; clear hn8)
            | (go_at_call 21; refine x3.mono ?_; rintro _ w9 ⟨rfl, n9, hn9⟩; have HN : Hid (w9 = wo.drewN n9) := ⟨hn9⟩; clear hn9))
          go_ret
          exact ⟨rfl, by rw [HN.out]; exact HBo.out n9⟩
end Go.Proofs.Ytjdinlgbfpkodaa

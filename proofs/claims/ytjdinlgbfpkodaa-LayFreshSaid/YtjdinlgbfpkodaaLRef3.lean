/- The document's Gaps. -/
import Derived.Test.YtjdinlgbfpkodaaLRef2
import Derived.Laws.OwnMore
namespace Go.Proofs.Ytjdinlgbfpkodaa
open Go.ChangeShapes Go.WideShapes Go.ChangeAt Go.RowKit Go.Shelf

theorem infoBl : ∃ i, Try.prog.info? 4 = some i ∧ i.zero = some (.bool false) ∧ i.size = 1 ∧ i.bytes = 1 := by
  have h : (Try.prog.info? 4).map (fun i => (i.zero, i.size, i.bytes)) = some (some (.bool false), 1, 1) := by kernel_rfl
  obtain ⟨i, hi, hz⟩ := Option.map_eq_some_iff.1 h
  simp only [Prod.mk.injEq] at hz
  exact ⟨i, hi, hz.1, hz.2.1, hz.2.2⟩
/-- Bools in a block. -/
structure Arr (w : World) (G B : Nat) (f : Int → Bool) : Prop where
  c : ∀ q : Nat, q < B → w.cell? ⟨G, q, none⟩ = some (.bool (f q))
  fz : ∀ o, w.frozen? ⟨G, o, none⟩ = false
  lt : G < w.heap.size
theorem Arr.same {w w' : World} {G B : Nat} {f : Int → Bool} (h : Arr w G B f) (hb : w'.heap[G]? = w.heap[G]?) (hs : w.heap.size ≤ w'.heap.size) : Arr w' G B f :=
  ⟨fun q hq => by rw [← h.c q hq]; simp only [World.cell?, hb], fun o => by rw [← h.fz o]; simp only [World.frozen?, hb], Nat.lt_of_lt_of_le h.lt hs⟩
theorem Arr.cong {w : World} {G B : Nat} {f g : Int → Bool} (h : Arr w G B f) (e : ∀ q : Nat, q < B → f q = g q) : Arr w G B g := ⟨fun q hq => by rw [← e q hq]; exact h.c q hq, h.fz, h.lt⟩
theorem Arr.set {w : World} {G B : Nat} {f : Int → Bool} (h : Arr w G B f) {k : Nat} (hk : k < B) : Arr (w.setCell ⟨G, k, none⟩ (.bool true)) G B (fun q => f q || decide (q = (k : Int))) :=
  ⟨fun q hq => by
    by_cases e : q = k
    · subst e
      rw [World.cell?_setCell_same w ⟨G, q, none⟩ _ (h.c q hq)]
      simp
    · rw [World.cell?_setCell_other w _ _ _ (fun e' => e (by injection e' with _ e2; exact e2.symm)), h.c q hq]
      have : decide ((q : Int) = (k : Int)) = false := decide_eq_false (by omega)
      rw [this, Bool.or_false],
    fun o => by rw [World.frozen?_setCell]; exact h.fz o, by simpa [World.setCell] using h.lt⟩
theorem Arr.make {w : World} {B : Nat} {ty : TypeId} : Arr (w.alloc (.cells (madeCells #[.bool false] B) ty)) w.heap.size B (fun _ => false) :=
  ⟨fun q hq => by
    rw [cell_lit (heap_new w _) q]
    have hl := toList_madeCells_one (.bool false) B
    have : (madeCells #[Value.bool false] B)[q]? = (madeCells #[Value.bool false] B).toList[q]? := by simp
    rw [this, hl, List.getElem?_replicate, if_pos hq],
    fun o => by simp only [World.frozen?, heap_new]; simp, by rw [World.size_alloc]; omega⟩
theorem inR_take : ∀ (l : List Rm) (os : List Int) (i : Nat) (x : Rm) (o p : Int), l[i]? = some x → os[i]? = some o → inR (l.take (i + 1)) (os.take (i + 1)) p = (inR (l.take i) (os.take i) p || decide (o ≤ p ∧ p < o + x.sz))
  | [], _, _, _, _, _, h, _ => by cases h
  | _ :: _, [], _, _, _, _, _, h => by cases h
  | y :: r, z :: q, 0, x, o, p, h1, h2 => by
    cases h1
    cases h2
    simp [inR]
  | y :: r, z :: q, i + 1, x, o, p, h1, h2 => by
    have ih := inR_take r q i x o p h1 h2
    simp only [List.take_succ_cons, inR] at ih ⊢
    rw [ih, Bool.or_assoc]
theorem laid_at : ∀ (l : List Rm) (os : List Int) (e E : Int) (i : Nat) (x : Rm) (o : Int), laidR l os e = some E → l[i]? = some x → os[i]? = some o → e ≤ o ∧ 0 ≤ x.sz ∧ x.sz ≤ 65535 ∧ o + x.sz ≤ E
  | [], _, _, _, _, _, _, _, h, _ => by cases h
  | _ :: _, [], _, _, _, _, _, h, _, _ => by cases h
  | y :: r, z :: q, e, E, 0, x, o, h, h1, h2 => by
    obtain ⟨k1, k2, k3, k4, k5⟩ := laidR_cons h
    have := laidR_le r q _ E k5
    cases h1
    cases h2
    exact ⟨k3, k1, k2, this⟩
  | y :: r, z :: q, e, E, i + 1, x, o, h, h1, h2 => by
    obtain ⟨k1, k2, k3, k4, k5⟩ := laidR_cons h
    have := laid_at r q _ E i x o k5 h1 h2
    omega
theorem scan_len (U : Int → Bool) (b : Int) : ∀ (f : Nat) (p n : Int), (scanR U b f p n).length ≤ f
  | 0, _, _ => Nat.le_refl _
  | f + 1, p, n => by
    simp only [scanR]
    split
    · have := scan_len U b f (p + 1) 0; omega
    · split
      · have := scan_len U b f (p + 1) (n + 1); rw [List.length_cons]; omega
      · have := scan_len U b f (p + 1) (n + 1); omega
set_option maxRecDepth 100000 in
set_option maxHeartbeats 16000000 in
theorem refGaps_any (l : List Rm) (os : List Int) (pp po : Option Addr) (cp co : Nat) (b : Int) (w : World) (hr : SlR w pp w.heap.size l) (hro : SlZ w po w.heap.size os) (hl : l.length ≤ 8796093021952) (hx : ∀ x ∈ l, x.ok) (hxo : ∀ o ∈ os, i64ok o) :
    Calls Try.prog 22 #[.slice pp l.length cp, .slice po os.length co, .int .i64 b] w fun r w' => ∃ v, r = .returned (.tuple #[v, .int .i64 (gapsZ l os b).2]) ∧ ROwn w' w.heap.size v (gapsZ l os b).1 ∧ Below w.heap.size w w' := by
  have cL := refLaid_any l os pp po cp co b w hr hro hl hx hxo
  rw [gapsZ_laid]
  cases hle : laidE l os b with
  | none =>
    rw [hle] at cL
    dsimp only
    have cL2 : Calls Try.prog 36 #[.slice pp l.length cp, .slice po os.length co, .int .i64 b] w fun r w' => r = .returned (.bool false) ∧ Hid (Below w.heap.size w w') := cL.mono fun r w' ⟨h0, n, hn⟩ => ⟨h0, ⟨by rw [hn]; exact tdr (Below.refl _ w)⟩⟩
    clear cL
    go_enter Try.func22, Try.ntmps22
    go_wp2_with (go_at_call 36; refine cL2.mono ?_; rintro _ w1 ⟨rfl, HB⟩)
    exact bodyPost_ret (v := .tuple #[nilS, .int .i64 73]) (by simp [results, Try.results22, go_sem]) rfl ⟨_, rfl, World.ownsRow_nil _ _ _ 2, HB.out⟩
  | some e =>
    rw [hle] at cL
    obtain ⟨h1, h2, h3, h4, h5, h6⟩ := laidE_some hle
    dsimp only
    obtain ⟨B, rfl⟩ : ∃ B : Nat, b = B := ⟨b.toNat, by omega⟩
    have cL2 : Calls Try.prog 36 #[.slice pp l.length cp, .slice po os.length co, .int .i64 (B : Int)] w fun r w' => r = .returned (.bool true) ∧ Hid (Below w.heap.size w w') := cL.mono fun r w' ⟨h0, n, hn⟩ => ⟨h0, ⟨by rw [hn]; exact tdr (Below.refl _ w)⟩⟩
    have h1h : Hid (l.length = os.length) := ⟨h1⟩
    have hsc := scan_gaps (inR l os) (B : Int) l os 0 0 e B h4 h5 (by decide) (by decide) (by omega) (fun _ _ _ => rfl)
    have hat := fun i x o => laid_at l os 0 e i x o h4
    obtain ⟨ZG, hZG⟩ : ∃ ZG, gapsR l os 0 (B : Int) = ZG := ⟨_, rfl⟩
    rw [hZG] at hsc ⊢
    have hB5 : B ≤ 65535 := by omega
    have heB : e ≤ B := h5
    clear cL hle h1 hZG h2 h3 h4 h6 h5
    obtain ⟨i0, hi, hz, hsi, hby⟩ := infoBl
    have hmk := fun (w : World) => run_make (P := Try.prog) w 46 4 i0 (.bool false) Try.underlying46 hi hz .i64 .i64 (B : Int) (B : Int) (by omega) (Int.le_refl _) (by rw [hby]; omega) (by omega)
    simp only [Int.toNat_natCast, hsi, Nat.mul_one] at hmk
    have hmc : (Value.bool false).cells = #[.bool false] := rfl
    rw [hmc] at hmk
    have hA0 := fun (w : World) => Arr.make (w := w) (B := B) (ty := 4)
    generalize hMd : madeCells #[Value.bool false] B = Md at hmk hA0
    clear hMd hi hz hsi hby hmc
    go_enter Try.func22, Try.ntmps22
    go_wp2_with (go_at_call 36; refine cL2.mono ?_; rintro _ w1 ⟨rfl, HB1⟩)
    obtain ⟨w2, hw2⟩ : ∃ w2, w2 = w1.alloc (.cells Md 4) := ⟨_, rfl⟩
    have hA := hA0 w1
    have hB2 : Below w.heap.size w w2 := by rw [hw2]; exact HB1.out.trans ((bel1 w1 _).mono HB1.out.size)
    have hs2 : w2.heap.size = w1.heap.size + 1 := by rw [hw2, World.size_alloc]
    rw [← hw2] at hA
    rw [← hw2]
    have hwG : w.heap.size ≤ w1.heap.size := HB1.out.size
    generalize w1.heap.size = G at hA hs2 hwG ⊢
    clear hw2 hmk hA0 cL2 HB1
    go_loopw [10] (fun n wr => ∃ (i : Nat), i ≤ l.length ∧ n = .int .i64 i ∧ Hid (Arr wr G B (fun q => inR (l.take i) (os.take i) q)) ∧ Below w.heap.size w wr ∧ wr.heap.size = G + 1) (fun n _ => l.length - (RowKit.intOf n).toNat)
    case atStart => exact ⟨0, Nat.zero_le _, by go_num, ⟨hA.cong fun q _ => by simp [inR]⟩, hB2, hs2⟩
    case round =>
      rename World => wo
      obtain ⟨i, hi, rfl, HA, hB, hsz⟩ := hrel
      by_cases hlt : i < l.length
      · have hlto : i < os.length := by have := h1h.out; omega
        obtain ⟨x, hxj⟩ : ∃ x, l[i]? = some x := ⟨l[i], List.getElem?_eq_getElem hlt⟩
        obtain ⟨o, hoj⟩ : ∃ o, os[i]? = some o := ⟨os[i], List.getElem?_eq_getElem hlto⟩
        obtain ⟨k1, k2, k3, k4⟩ := hat i x o hxj hoj
        have hlti : (i : Int) < l.length := by omega
        have hltoi : (i : Int) < os.length := by omega
        obtain ⟨g1, o1, rfl, hg1, q1, _⟩ := hr.row.c i x hxj
        obtain ⟨g2, o2, rfl, hg2, q2⟩ := hro.row.c i o hoj
        obtain ⟨O, rfl⟩ : ∃ O : Nat, o = O := ⟨o.toNat, by omega⟩
        have hup := fun p => inR_take l os i x O p hxj hoj
        obtain ⟨sz, of0⟩ := x
        dsimp only at k2 k3 k4 hup q1
        obtain ⟨S, rfl⟩ : ∃ S : Nat, sz = S := ⟨sz.toNat, by omega⟩
        clear hxj hoj hr hro hx hxo hat
        go_wp2_with fail
        go_loopw [11] (fun n wr => ∃ (k : Nat), k ≤ S ∧ n = .int .i64 k ∧ Hid (Arr wr G B (fun q => inR (l.take i) (os.take i) q || decide ((O : Int) ≤ q ∧ q < (O : Int) + k))) ∧ Below w.heap.size w wr ∧ wr.heap.size = G + 1) (fun n _ => S - (RowKit.intOf n).toNat)
        case atStart => exact ⟨0, Nat.zero_le _, by go_num, ⟨HA.out.cong fun q _ => by rw [decide_eq_false (by omega), Bool.or_false]⟩, hB, hsz⟩
        case round =>
          obtain ⟨k, hk, rfl, HA2, hB3, hsz3⟩ := hrel
          have r1 : wr.cell? ⟨g1, o1 + i * 2, none⟩ = some (.int .i64 (S : Int)) := (hB3.cell (p := ⟨g1, o1 + i * 2, none⟩) hg1).trans q1
          have r2 : wr.cell? ⟨g2, o2 + i, none⟩ = some (.int .i64 (O : Int)) := (hB3.cell (p := ⟨g2, o2 + i, none⟩) hg2).trans q2
          by_cases hks : k < S
          · have hksi : (k : Int) < S := by omega
            have hOk : O + k < B := by omega
            have hOki : (O : Int) + k < B := by omega
            have c0 := HA2.out.c (O + k) hOk
            have f0 := HA2.out.fz (O + k)
            have hcast : ((O : Int) + (k : Int)).toNat = O + k := by omega
            have HA3 : Hid (Arr (wr.setCell ⟨G, O + k, none⟩ (.bool true)) G B (fun q => inR (l.take i) (os.take i) q || decide ((O : Int) ≤ q ∧ q < (O : Int) + (k + 1 : Nat)))) := ⟨(HA2.out.set hOk).cong fun q hq => by
              rw [Bool.or_assoc]
              congr 1
              by_cases h : (O : Int) ≤ q ∧ (q : Int) < (O : Int) + k
              · rw [decide_eq_true h, decide_eq_true (show (O : Int) ≤ q ∧ (q : Int) < (O : Int) + (k + 1 : Nat) by omega)]; rfl
              · rw [decide_eq_false h, Bool.false_or]
                by_cases h2 : (q : Int) = ((O + k : Nat) : Int)
                · rw [decide_eq_true h2, decide_eq_true (by omega)]
                · rw [decide_eq_false h2, decide_eq_false (by omega)]⟩
            have HB3 : Hid (Below w.heap.size w (wr.setCell ⟨G, O + k, none⟩ (.bool true)) ∧ (wr.setCell ⟨G, O + k, none⟩ (.bool true)).heap.size = G + 1) := ⟨⟨hB3.os, hB3.tape, hB3.output, by have := hB3.size; simp [World.setCell]; omega, fun q hq => (Below.heap_setCell _ _ _ _ (show q ≠ G by omega)).trans (hB3.block q hq)⟩, by simp [World.setCell]; omega⟩
            generalize (inR (l.take i) (os.take i) ((O + k : Nat) : Int) || decide ((O : Int) ≤ ((O + k : Nat) : Int) ∧ ((O + k : Nat) : Int) < (O : Int) + (k : Int))) = bv at c0
            clear HA2 hB3 hup
            go_wp2_with fail
            go_roundw
            case rel => exact ⟨k + 1, by omega, by go_num, HA3, HB3.out.1, HB3.out.2⟩
            case measure => simp [RowKit.intOf]; omega
          · obtain rfl : k = S := by omega
            have HA3 : Hid (Arr wr G B (fun q => inR (l.take (i + 1)) (os.take (i + 1)) q)) := ⟨HA2.out.cong fun q _ => (hup q).symm⟩
            clear HA2 hup HA
            go_wp2_with fail
            go_roundw
            case rel => exact ⟨i + 1, by omega, by go_num, HA3, hB3, hsz3⟩
            case measure => simp [RowKit.intOf]; omega
      · obtain rfl : i = l.length := by omega
        have HU : Hid (Arr wo G B (inR l os)) := ⟨HA.out.cong fun q _ => by rw [List.take_length, List.take_of_length_le (by have := h1h.out; omega)]⟩
        have hzl := scan_len (inR l os) (B : Int) B 0 0
        rw [hsc] at hzl
        clear HA hr hro hat hx hxo
        go_wp2_with fail
        generalize inR l os = U at HU hsc
        go_loopw [12, 13, 14] (fun v nn pn wr => ∃ (p n : Nat) (pre : List Rm), p ≤ B ∧ n ≤ p ∧ pn = .int .i64 p ∧ nn = .int .i64 n ∧ Hid (pre.length ≤ p) ∧ ROwn wr (G + 1) v pre ∧ Hid (Arr wr G B U) ∧ Below w.heap.size w wr ∧ G + 1 ≤ wr.heap.size ∧ Hid (pre ++ scanR U (B : Int) (B - p) (p : Int) (n : Int) = ZG)) (fun _ _ pn _ => B - (RowKit.intOf pn).toNat)
        case atStart => exact ⟨0, 0, [], Nat.zero_le _, Nat.le_refl _, by go_num, by go_num, ⟨Nat.le_refl _⟩, World.ownsRow_nil _ _ _ 2, HU, hB, by omega, ⟨hsc⟩⟩
        case round =>
          obtain ⟨p, n, pre, hp, hn, rfl, rfl, hpl, hO, HU2, hB2, hsz2, hS⟩ := hrel
          obtain ⟨pv, cv, hv, _⟩ := hO.shape
          by_cases hpB : p < B
          · have hpBi : (p : Int) < B := by omega
            have c0 := HU2.out.c p hpB
            have hS2 := hS.out
            rw [show B - p = (B - (p + 1)) + 1 by omega] at hS2
            simp only [scanR] at hS2
            have hcp : ((p : Int) + 1).toNat = p + 1 := by omega
            cases hUp : U (p : Int) with
            | true =>
              rw [if_pos hUp] at hS2
              rw [hUp] at c0
              have HS : Hid (pre ++ scanR U (B : Int) (B - (p + 1)) ((p + 1 : Nat) : Int) ((0 : Nat) : Int) = ZG) := ⟨hS2⟩
              have HO : Hid (ROwn wr (G + 1) u12 pre) := ⟨hO⟩
              clear hS2 hS hO hUp
              subst hv
              go_wp2_with fail
              go_roundw
              case rel => exact ⟨p + 1, 0, pre, by omega, by omega, by go_num, by go_num, ⟨by have := hpl.out; omega⟩, HO.out, HU2, hB2, hsz2, HS⟩
              case measure => simp [RowKit.intOf]; omega
            | false =>
              rw [if_neg (by rw [hUp]; decide)] at hS2
              rw [hUp] at c0
              by_cases hd : (p : Int) + 1 = B ∨ U ((p : Int) + 1) = true
              · rw [if_pos hd] at hS2
                have hal := bel1 wr (.cells #[.int .i64 ((n : Int) + 1), .int .i64 ((p : Int) + 1 - ((n : Int) + 1))] 35)
                have hO2 := own_below hO hal
                obtain ⟨v3, w3, hrun, hO4, hg4, _⟩ := r_ap (bl := [⟨(n : Int) + 1, (p : Int) + 1 - ((n : Int) + 1)⟩]) (ad := ⟨wr.heap.size, 0, none⟩) (H := wr.heap.size + 1) 1 hO2 (RmRow.lit (heap_new wr _) (Nat.lt_succ_self _)) (by have := hpl.out; simp; omega) (by rw [World.size_alloc]; omega)
                have hB4 := own_bel hO2 hg4 (by rw [World.size_alloc]; omega)
                have HB : Hid (Below w.heap.size w w3 ∧ G + 1 ≤ w3.heap.size) := ⟨(hB2.trans (hal.mono hB2.size)).trans (hB4.mono (by omega)), by have := hg4.size; rw [World.size_alloc] at this; omega⟩
                have HU3 : Hid (Arr w3 G B U) := ⟨HU2.out.same ((hB4.block G (by omega)).trans (hal.block G (by omega))) (by have := hg4.size; rw [World.size_alloc] at this; omega)⟩
                have HO : Hid (ROwn w3 (G + 1) v3 (pre ++ [⟨(n : Int) + 1, (p : Int) + 1 - ((n : Int) + 1)⟩])) := ⟨hO4⟩
                have HS : Hid ((pre ++ [⟨(n : Int) + 1, (p : Int) + 1 - ((n : Int) + 1)⟩]) ++ scanR U (B : Int) (B - (p + 1)) ((p + 1 : Nat) : Int) ((n + 1 : Nat) : Int) = ZG) := ⟨by rw [List.append_assoc]; exact hS2⟩
                have hpl2 : Hid ((pre ++ [(⟨(n : Int) + 1, (p : Int) + 1 - ((n : Int) + 1)⟩ : Rm)]).length ≤ p + 1) := ⟨by have := hpl.out; simp; omega⟩
                obtain ⟨p3, c3, hv3, _⟩ := hO4.shape
                rw [List.length_append, List.length_singleton] at hv3
                generalize hM : (p : Int) + 1 - ((n : Int) + 1) = M at hrun HO HS hpl2
                have hw1 : IntKind.i64.wrap M = M := by rw [IntKind.wrap_i64]; omega
                have hMb : (p : Int) - n = M := by omega
                have hS9 := hS
                clear hO4 hB4 hO2 hO hal hg4 hS2 hS hS9
                subst hv hv3
                by_cases hd1 : (p : Int) + 1 = B
                · have hd1b : ((p : Int) + 1 == (B : Int)) = true := beq_iff_eq.2 hd1
                  clear hd1 hd
                  go_wp2_with (at_builtin; refine (wpList_append_ex (by rfl) _ _ _ _ (by rfl) _ _ (by rfl) (by rfl) (fun a b => a = _ ∧ b = w3) ⟨_, w3, hrun, rfl, rfl⟩ ?_); rintro _ _ ⟨rfl, rfl⟩)
                  go_roundw
                  case rel => exact ⟨p + 1, n + 1, _, by omega, by omega, by go_num, by go_num, hpl2, HO.out, HU3, HB.out.1, HB.out.2, HS⟩
                  case measure => simp [RowKit.intOf]; omega
                · have hd1b : ((p : Int) + 1 == (B : Int)) = false := beq_eq_false_iff_ne.2 hd1
                  have hU1 : U ((p + 1 : Nat) : Int) = true := by
                    rcases hd with h | h
                    · exact absurd h hd1
                    · exact h
                  have hpB1 : p + 1 < B := by omega
                  have hpB1i : (p : Int) + 1 < B := by omega
                  have c1 := HU2.out.c (p + 1) hpB1
                  rw [hU1] at c1
                  clear hd hd1 hU1
                  go_wp2_with (at_builtin; refine (wpList_append_ex (by rfl) _ _ _ _ (by rfl) _ _ (by rfl) (by rfl) (fun a b => a = _ ∧ b = w3) ⟨_, w3, hrun, rfl, rfl⟩ ?_); rintro _ _ ⟨rfl, rfl⟩)
                  go_roundw
                  case rel => exact ⟨p + 1, n + 1, _, by omega, by omega, by go_num, by go_num, hpl2, HO.out, HU3, HB.out.1, HB.out.2, HS⟩
                  case measure => simp [RowKit.intOf]; omega
              · rw [if_neg hd] at hS2
                have hd1 : ¬ (p : Int) + 1 = B := fun h => hd (.inl h)
                have hU1 : U ((p + 1 : Nat) : Int) = false := by
                  cases h : U ((p : Int) + 1) with
                  | true => exact absurd (.inr h) hd
                  | false => exact h
                have hd1b : ((p : Int) + 1 == (B : Int)) = false := beq_eq_false_iff_ne.2 hd1
                have hpB1 : p + 1 < B := by omega
                have hpB1i : (p : Int) + 1 < B := by omega
                have c1 := HU2.out.c (p + 1) hpB1
                rw [hU1] at c1
                have HS : Hid (pre ++ scanR U (B : Int) (B - (p + 1)) ((p + 1 : Nat) : Int) ((n + 1 : Nat) : Int) = ZG) := ⟨hS2⟩
                have HO : Hid (ROwn wr (G + 1) u12 pre) := ⟨hO⟩
                clear hS2 hS hO hUp hd hU1 hd1
                subst hv
                go_wp2_with fail
                go_roundw
                case rel => exact ⟨p + 1, n + 1, pre, by omega, by omega, by go_num, by go_num, ⟨by have := hpl.out; omega⟩, HO.out, HU2, hB2, hsz2, HS⟩
                case measure => simp [RowKit.intOf]; omega
          · obtain rfl : p = B := by omega
            have hS2 := hS.out
            rw [Nat.sub_self] at hS2
            simp only [scanR, List.append_nil] at hS2
            subst hS2
            have HO : Hid (ROwn wr (G + 1) u12 pre) := ⟨hO⟩
            clear hO hS
            subst hv
            go_wp2_with fail
            exact bodyPost_ret (v := .tuple #[.slice pv pre.length cv, .int .i64 0]) (by simp [results, Try.results22, go_sem]) rfl ⟨_, rfl, own_mono HO.out (by omega), hB2⟩
end Go.Proofs.Ytjdinlgbfpkodaa

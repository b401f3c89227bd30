/- The document's Laid and Plain. -/
import Derived.Test.YtjdinlgbfpkodaaLLdM
namespace Go.Proofs.Ytjdinlgbfpkodaa
open Go.ChangeShapes Go.WideShapes Go.ChangeAt Go.RowKit Go.Shelf

theorem laidR_step {l : List Rm} {os : List Int} {j : Nat} {x : Rm} {o e : Int} (hx : l[j]? = some x) (ho : os[j]? = some o) : laidR (l.drop j) (os.drop j) e = if x.sz < 0 ∨ 65535 < x.sz ∨ o < e ∨ 65535 < o then none else laidR (l.drop (j + 1)) (os.drop (j + 1)) (o + x.sz) := by
  rw [drop_at hx, drop_at ho]
  rfl
theorem laidE_none {l : List Rm} {os : List Int} {b : Int} (h : laidR l os 0 = none) : laidE l os b = none := by
  unfold laidE
  rw [h]
  split <;> rfl
set_option maxRecDepth 100000 in
set_option maxHeartbeats 8000000 in
theorem refLaid_any (l : List Rm) (os : List Int) (pp po : Option Addr) (cp co : Nat) (b : Int) (w : World) (hr : SlR w pp w.heap.size l) (hro : SlZ w po w.heap.size os) (hl : l.length ≤ 8796093021952) (hx : ∀ x ∈ l, x.ok) (hxo : ∀ o ∈ os, i64ok o) :
    Calls Try.prog 36 #[.slice pp l.length cp, .slice po os.length co, .int .i64 b] w fun r w' => r = .returned (.bool (laidE l os b).isSome) ∧ ∃ n, w' = w.drewN n := by
  obtain ⟨Z, hZ⟩ : ∃ Z, laidE l os b = Z := ⟨_, rfl⟩
  rw [hZ]
  by_cases b2 : l.length = os.length
  · have b2' : (os.length : Int) = l.length := by omega
    have b2b : ((os.length : Int) == (l.length : Int)) = true := beq_iff_eq.2 b2'
    have b2c : ((os.length : Int) != (l.length : Int)) = false := by rw [bne, b2b]; rfl
    have b2h : Hid (l.length = os.length) := ⟨b2⟩
    by_cases b0 : b < 0
    · have : laidE l os b = none := by unfold laidE; rw [if_neg (by omega)]
      rw [this] at hZ
      subst hZ
      clear b2 b2'
      go_enter Try.func36, Try.ntmps36
      go_wp2_with fail
      go_ret
      exact ⟨rfl, 0, rfl⟩
    by_cases b1 : 65535 < b
    · have : laidE l os b = none := by unfold laidE; rw [if_neg (by omega)]
      rw [this] at hZ
      subst hZ
      clear b2 b2'
      go_enter Try.func36, Try.ntmps36
      go_wp2_with fail
      go_ret
      exact ⟨rfl, 0, rfl⟩
    have hE : ∀ e, laidR l os 0 = some e → Z = if e ≤ b then some e else none := fun e he => by
      rw [← hZ]
      unfold laidE
      rw [if_pos ⟨b2, by omega, by omega⟩, he]
    have hN : laidR l os 0 = none → Z = none := fun he => by rw [← hZ]; exact laidE_none he
    clear b2 b2' hZ
    go_enter Try.func36, Try.ntmps36
    go_wp2_with fail
    go_loopw [7, 8] (fun e n wr => ∃ (j d : Nat) (E : Int), j ≤ l.length ∧ n = .int .i64 j ∧ e = .int .i64 E ∧ 0 ≤ E ∧ E ≤ 131070 ∧ Hid (wr = w.drewN d) ∧ Hid (laidR (l.drop j) (os.drop j) E = laidR l os 0)) (fun _ n _ => l.length - (RowKit.intOf n).toNat)
    case atStart => exact ⟨0, 0, 0, Nat.zero_le _, by go_num, by go_num, by decide, by decide, ⟨rfl⟩, ⟨rfl⟩⟩
    case round =>
      obtain ⟨j, d, E, hj, rfl, rfl, hE0, hE1, hd, hat⟩ := hrel
      by_cases hlt : j < l.length
      · have hlto : j < os.length := by have := b2h.out; omega
        obtain ⟨x, hxj⟩ : ∃ x, l[j]? = some x := ⟨l[j], List.getElem?_eq_getElem hlt⟩
        obtain ⟨o, hoj⟩ : ∃ o, os[j]? = some o := ⟨os[j], List.getElem?_eq_getElem hlto⟩
        obtain ⟨g1, o1, rfl, _, q1, _⟩ := hr.row.c j x hxj
        obtain ⟨g2, o2, rfl, _, q2⟩ := hro.row.c j o hoj
        have r1 : wr.cell? ⟨g1, o1 + j * 2, none⟩ = some (.int .i64 x.sz) := by rw [hd.out]; exact q1
        have r2 : wr.cell? ⟨g2, o2 + j, none⟩ = some (.int .i64 o) := by rw [hd.out]; exact q2
        have hat2 := hat.out
        rw [laidR_step hxj hoj] at hat2
        obtain ⟨z1, z2⟩ := (hx x (List.mem_of_getElem? hxj)).1
        obtain ⟨z3, z4⟩ := hxo o (List.mem_of_getElem? hoj)
        have hlti : (j : Int) < l.length := by omega
        have hltoi : (j : Int) < os.length := by omega
        clear q1 q2 hat hr hro hxj hoj hx hxo
        obtain ⟨sz, _⟩ := x
        dsimp only at r1 hat2 z1 z2
        by_cases k1 : sz < 0
        · skip
          rw [if_pos (by omega)] at hat2
          have hz := hN hat2.symm
          subst hz
          clear hat2 hE hN
          go_wp2_with fail
          go_ret
          exact ⟨rfl, d, hd.out⟩
        by_cases k2 : 65535 < sz
        · skip
          rw [if_pos (by omega)] at hat2
          have hz := hN hat2.symm
          subst hz
          clear hat2 hE hN
          go_wp2_with fail
          go_ret
          exact ⟨rfl, d, hd.out⟩
        by_cases k3 : o < E
        · skip
          rw [if_pos (by omega)] at hat2
          have hz := hN hat2.symm
          subst hz
          clear hat2 hE hN
          go_wp2_with fail
          go_ret
          exact ⟨rfl, d, hd.out⟩
        by_cases k4 : 65535 < o
        · skip
          rw [if_pos (by omega)] at hat2
          have hz := hN hat2.symm
          subst hz
          clear hat2 hE hN
          go_wp2_with fail
          go_ret
          exact ⟨rfl, d, hd.out⟩
        rw [if_neg (by omega)] at hat2
        have HA : Hid (laidR (l.drop (j + 1)) (os.drop (j + 1)) (o + sz) = laidR l os 0) := ⟨hat2⟩
        have hw1 : IntKind.i64.wrap (o + sz) = o + sz := by rw [IntKind.wrap_i64]; omega
        have hs1 : 0 ≤ o + sz ∧ o + sz ≤ 131070 := by omega
        clear hat2 hE hN
        go_wp2_with fail
        go_quiet (fail)
        go_wp2_with fail
        go_roundw
        case rel => exact ⟨j + 1, d + nq, o + sz, by omega, by go_num, rfl, hs1.1, hs1.2, ⟨by rw [hd.out]; exact drewN_add _ _ _⟩, HA⟩
        case measure => simp [RowKit.intOf]; omega
      · obtain rfl : j = l.length := by omega
        have hat2 := hat.out
        rw [List.drop_length, show os.drop l.length = [] from List.drop_eq_nil_of_le (by have := b2h.out; omega)] at hat2
        have hz := hE E hat2.symm
        clear hat2 hat hE hN hr hro
        by_cases k : E ≤ b
        · rw [if_pos k] at hz
          subst hz
          go_wp2_with fail
          go_ret
          exact ⟨rfl, d, hd.out⟩
        · rw [if_neg k] at hz
          subst hz
          go_wp2_with fail
          go_ret
          exact ⟨rfl, d, hd.out⟩
  · have : laidE l os b = none := by unfold laidE; rw [if_neg (fun h => b2 h.1)]
    rw [this] at hZ
    subst hZ
    have b2' : ¬ (os.length : Int) = l.length := by omega
    have b2b : ((os.length : Int) == (l.length : Int)) = false := beq_eq_false_iff_ne.2 b2'
    have b2c : ((os.length : Int) != (l.length : Int)) = true := by rw [bne, b2b]; rfl
    go_enter Try.func36, Try.ntmps36
    go_wp2_with fail
    go_ret
    exact ⟨rfl, 0, rfl⟩
theorem pl2_len : ∀ (l : List Rm) (os : List Int) (e : Int), (pl2 l os e).length ≤ l.length
  | [], os, e => by cases os <;> simp [pl2]
  | x :: r, [], e => by simp [pl2]
  | x :: r, o :: q, e => by
    have := pl2_len r q (o + x.sz)
    simp only [pl2, List.length_cons]
    omega
theorem pl2_step {l : List Rm} {os : List Int} {j : Nat} {x : Rm} {o e : Int} (hx : l[j]? = some x) (ho : os[j]? = some o) : pl2 (l.drop j) (os.drop j) e = (⟨x.sz, if o = e then -1 else o⟩ : Rm) :: pl2 (l.drop (j + 1)) (os.drop (j + 1)) (o + x.sz) := by
  rw [drop_at hx, drop_at ho]
  rfl
set_option maxRecDepth 100000 in
set_option maxHeartbeats 8000000 in
theorem refPlain_any (l : List Rm) (os : List Int) (pp po : Option Addr) (cp co : Nat) (b : Int) (w : World) (hr : SlR w pp w.heap.size l) (hro : SlZ w po w.heap.size os) (hl : l.length ≤ 8796093021952) (hx : ∀ x ∈ l, x.ok) (hxo : ∀ o ∈ os, i64ok o) :
    Calls Try.prog 23 #[.slice pp l.length cp, .slice po os.length co, .int .i64 b] w fun r w' => ∃ v, r = .returned (.tuple #[v, .int .i64 (plainZ l os b).2.1, .int .i64 (plainZ l os b).2.2]) ∧ ROwn w' w.heap.size v (plainZ l os b).1 ∧ Below w.heap.size w w' := by
  have cL := refLaid_any l os pp po cp co b w hr hro hl hx hxo
  rw [plainZ_laid]
  cases hle : laidE l os b with
  | none =>
    rw [hle] at cL
    dsimp only
    have cL2 : Calls Try.prog 36 #[.slice pp l.length cp, .slice po os.length co, .int .i64 b] w fun r w' => r = .returned (.bool false) ∧ Hid (Below w.heap.size w w') := cL.mono fun r w' ⟨h0, n, hn⟩ => ⟨h0, ⟨by rw [hn]; exact tdr (Below.refl _ w)⟩⟩
    clear cL
    go_enter Try.func23, Try.ntmps23
    go_wp2_with (go_at_call 36; refine cL2.mono ?_; rintro _ w1 ⟨rfl, HB⟩)
    exact bodyPost_ret (v := .tuple #[nilS, .int .i64 0, .int .i64 73]) (by simp [results, Try.results23, go_sem]) rfl ⟨_, rfl, World.ownsRow_nil _ _ _ 2, HB.out⟩
  | some e =>
    rw [hle] at cL
    obtain ⟨h1, h2, h3, h4, h5, h6⟩ := laidE_some hle
    dsimp only
    have cL2 : Calls Try.prog 36 #[.slice pp l.length cp, .slice po os.length co, .int .i64 b] w fun r w' => r = .returned (.bool true) ∧ Hid (Below w.heap.size w w') := cL.mono fun r w' ⟨h0, n, hn⟩ => ⟨h0, ⟨by rw [hn]; exact tdr (Below.refl _ w)⟩⟩
    clear cL hle
    have h1h : Hid (l.length = os.length) := ⟨h1⟩
    have hpl := pl2_len l os 0
    obtain ⟨ZP, hZP⟩ : ∃ ZP, pl2 l os 0 = ZP := ⟨_, rfl⟩
    rw [hZP] at hpl ⊢
    generalize hKV : (if b = e then (-1 : Int) else b) = KV
    clear h1
    go_enter Try.func23, Try.ntmps23
    go_wp2_with (go_at_call 36; refine cL2.mono ?_; rintro _ w1 ⟨rfl, HB1⟩)
    go_loopw [10, 11, 12] (fun v ee n wr => ∃ (j : Nat) (E : Int) (pre : List Rm), j ≤ l.length ∧ n = .int .i64 j ∧ ee = .int .i64 E ∧ 0 ≤ E ∧ E ≤ 131070 ∧ Hid (pre.length = j) ∧ ROwn wr w.heap.size v pre ∧ Below w.heap.size w wr ∧ Hid (laidR (l.drop j) (os.drop j) E = some e) ∧ Hid (pre ++ pl2 (l.drop j) (os.drop j) E = ZP)) (fun _ _ n _ => l.length - (RowKit.intOf n).toNat)
    case atStart => exact ⟨0, 0, [], Nat.zero_le _, by go_num, by go_num, by decide, by decide, ⟨rfl⟩, World.ownsRow_nil _ _ _ 2, HB1.out, ⟨h4⟩, ⟨hZP⟩⟩
    case round =>
      obtain ⟨j, E, pre, hj, rfl, rfl, hE0, hE1, hpre, hO, hB, hat, hpt⟩ := hrel
      by_cases hlt : j < l.length
      · have hlto : j < os.length := by have := h1h.out; omega
        obtain ⟨x, hxj⟩ : ∃ x, l[j]? = some x := ⟨l[j], List.getElem?_eq_getElem hlt⟩
        obtain ⟨o, hoj⟩ : ∃ o, os[j]? = some o := ⟨os[j], List.getElem?_eq_getElem hlto⟩
        have hat2 := hat.out
        rw [drop_at hxj, drop_at hoj] at hat2
        obtain ⟨k1, k2, k3, k4, k5⟩ := laidR_cons hat2
        have hpt2 := hpt.out
        rw [pl2_step hxj hoj] at hpt2
        obtain ⟨g1, o1, rfl, hg1, q1, _⟩ := (hr.row.below hB).c j x hxj
        obtain ⟨g2, o2, rfl, hg2, q2⟩ := (hro.row.below hB).c j o hoj
        have hlti : (j : Int) < l.length := by omega
        have hltoi : (j : Int) < os.length := by omega
        obtain ⟨sz, off0⟩ := x
        dsimp only at k1 k2 k5 hpt2 q1
        clear hat2 hat hpt hr hro hxj hoj hx hxo cL2
        have HA : Hid (laidR (l.drop (j + 1)) (os.drop (j + 1)) (o + sz) = some e) := ⟨k5⟩
        have hw1 : IntKind.i64.wrap (o + sz) = o + sz := by rw [IntKind.wrap_i64]; omega
        have hs1 : 0 ≤ o + sz ∧ o + sz ≤ 131070 := by omega
        obtain ⟨pv, cv, hv, _⟩ := hO.shape
        clear k5
        have hsz := hB.size
        obtain ⟨wq, hwq⟩ : ∃ wq, wq = wr.drew := ⟨_, rfl⟩
        have hBq : Below w.heap.size w wq := by rw [hwq]; exact hB.drew
        have hOq : ROwn wq w.heap.size u10 pre := by rw [hwq]; exact own_same hO fun _ _ => rfl
        have hszq : w.heap.size ≤ wq.heap.size := hBq.size
        generalize hOV : (if o = E then (-1 : Int) else o) = OV at hpt2
        have hal := bel1 wq (.cells #[.int .i64 sz, .int .i64 OV] 35)
        have hO2 := own_below hOq hal
        have hal2 := bel1 (wq.alloc (.cells #[.int .i64 sz, .int .i64 OV] 35)) (.cells #[.int .i64 sz, .int .i64 OV] 35)
        have hO3 := own_below hO2 hal2
        have hsA : (wq.alloc (.cells #[.int .i64 sz, .int .i64 OV] 35)).heap.size = wq.heap.size + 1 := by rw [World.size_alloc]
        have hsB : ((wq.alloc (.cells #[.int .i64 sz, .int .i64 OV] 35)).alloc (.cells #[.int .i64 sz, .int .i64 OV] 35)).heap.size = wq.heap.size + 2 := by rw [World.size_alloc, World.size_alloc]
        obtain ⟨v3, w3, hrun, hO4, hg4, _⟩ := r_ap (bl := [⟨sz, OV⟩]) (ad := ⟨(wq.alloc (.cells #[.int .i64 sz, .int .i64 OV] 35)).heap.size, 0, none⟩) (H := (wq.alloc (.cells #[.int .i64 sz, .int .i64 OV] 35)).heap.size + 1) 1 hO3 (RmRow.lit (heap_new _ _) (Nat.lt_succ_self _)) (by have := hpre.out; simp; omega) (by omega)
        have hB4 := own_bel hO3 hg4 (by omega)
        have HB : Hid (Below w.heap.size w w3) := Hid.mk <| ((hBq.trans (hal.mono hszq)).trans (hal2.mono (by omega))).trans hB4
        have HR : Hid (ROwn w3 w.heap.size v3 (pre ++ [⟨sz, OV⟩])) := ⟨hO4⟩
        have hgk : ∀ k, k < w.heap.size → w3.heap[k]? = wr.heap[k]? := fun k hk => (HB.out.block k hk).trans (hB.block k hk).symm
        have y1 : w3.cell? ⟨g1, o1 + j * 2, none⟩ = some (.int .i64 sz) := by rw [← q1]; simp only [World.cell?, hgk g1 hg1]
        have y2 : w3.cell? ⟨g2, o2 + j, none⟩ = some (.int .i64 o) := by rw [← q2]; simp only [World.cell?, hgk g2 hg2]
        have y3 : (wq.alloc (.cells #[.int .i64 sz, .int .i64 o] 35)).cell? ⟨g2, o2 + j, none⟩ = some (.int .i64 o) := ((bel1 wq _).cell (p := ⟨g2, o2 + j, none⟩) (show g2 < wq.heap.size by omega)).trans (by rw [hwq]; exact q2)
        rw [hsA] at hrun
        obtain ⟨p3, c3, hv3, _⟩ := hO4.shape
        rw [List.length_append, List.length_singleton] at hv3
        have HP : Hid ((pre ++ [⟨sz, OV⟩]) ++ pl2 (l.drop (j + 1)) (os.drop (j + 1)) (o + sz) = ZP) := ⟨by rw [List.append_assoc]; exact hpt2⟩
        have hpre2 : Hid ((pre ++ [(⟨sz, OV⟩ : Rm)]).length = j + 1) := ⟨by have := hpre.out; simp; omega⟩
        clear hO4 hB4 hO3 hO2 hOq hO hal hal2 hBq hB hg4 hpt2 hgk
        subst hv hv3
        have x1 : (wr.alloc (.cells #[.int .i64 0, .int .i64 0] 35)).cell? ⟨g2, o2 + j, none⟩ = some (.int .i64 o) := ((bel1 wr _).cell (p := ⟨g2, o2 + j, none⟩) (show g2 < wr.heap.size by omega)).trans q2
        have x2 : (wr.alloc (.cells #[.int .i64 0, .int .i64 0] 35)).cell? ⟨g1, o1 + j * 2, none⟩ = some (.int .i64 sz) := ((bel1 wr _).cell (p := ⟨g1, o1 + j * 2, none⟩) (show g1 < wr.heap.size by omega)).trans q1
        have x3 : (wr.alloc (.cells #[.int .i64 sz, .int .i64 o] 35)).cell? ⟨g2, o2 + j, none⟩ = some (.int .i64 o) := ((bel1 wr _).cell (p := ⟨g2, o2 + j, none⟩) (show g2 < wr.heap.size by omega)).trans q2
        subst hwq
        by_cases hoe : o = E
        · subst hoe
          rw [if_pos rfl] at hOV
          subst hOV
          have hrun2 : ∀ ty, (Builtin.append_ #[23, 23] ty #[.slice pv pre.length cv, .slice (some ⟨wr.heap.size + 1, 0, none⟩) 1 1]).run Try.prog ((wr.alloc (.cells #[.int .i64 sz, .int .i64 (-1)] 35)).alloc (.cells #[.int .i64 sz, .int .i64 (-1)] 35)).drew = .ok (.slice p3 (pre.length + 1) c3) w3 := hrun
          clear hrun
          go_wp2_with fail
          go_region
          all_goals
            go_wp2_with (at_builtin; refine (wpList_append_ex (by rfl) _ _ _ _ (by rfl) _ _ (by rfl) (by rfl) (fun a b => a = _ ∧ b = w3) ⟨_, w3, hrun2, rfl, rfl⟩ ?_); rintro _ _ ⟨rfl, rfl⟩)
            go_quiet (fail)
            go_wp2_with fail
            go_roundw
            case rel => exact ⟨j + 1, o + sz, _, by omega, by go_num, rfl, hs1.1, hs1.2, hpre2, own_same HR.out fun _ _ => rfl, tdr HB.out, HA, HP⟩
            case measure => simp [RowKit.intOf]; omega
        · rw [if_neg hoe] at hOV
          subst hOV
          have hoeb : (o == E) = false := beq_eq_false_iff_ne.2 hoe
          have hrun2 : ∀ ty, (Builtin.append_ #[23, 23] ty #[.slice pv pre.length cv, .slice (some ⟨wr.heap.size + 1, 0, none⟩) 1 1]).run Try.prog ((wr.alloc (.cells #[.int .i64 sz, .int .i64 (o)] 35)).alloc (.cells #[.int .i64 sz, .int .i64 (o)] 35)).drew = .ok (.slice p3 (pre.length + 1) c3) w3 := hrun
          clear hrun
          go_wp2_with fail
          go_region
          all_goals
            go_wp2_with (at_builtin; refine (wpList_append_ex (by rfl) _ _ _ _ (by rfl) _ _ (by rfl) (by rfl) (fun a b => a = _ ∧ b = w3) ⟨_, w3, hrun2, rfl, rfl⟩ ?_); rintro _ _ ⟨rfl, rfl⟩)
            go_quiet (fail)
            go_wp2_with fail
            go_roundw
            case rel => exact ⟨j + 1, o + sz, _, by omega, by go_num, rfl, hs1.1, hs1.2, hpre2, own_same HR.out fun _ _ => rfl, tdr HB.out, HA, HP⟩
            case measure => simp [RowKit.intOf]; omega
      · obtain rfl : j = l.length := by omega
        have hat2 := hat.out
        have hdr : os.drop l.length = [] := List.drop_eq_nil_of_le (by have := h1h.out; omega)
        rw [List.drop_length, hdr] at hat2
        have hpt2 := hpt.out
        rw [List.drop_length, hdr] at hpt2
        have hpn : pl2 [] [] E = [] := rfl
        rw [hpn, List.append_nil] at hpt2
        have hEe : E = e := by cases hat2; rfl
        subst hEe
        subst hpt2
        obtain ⟨pv, cv, hv, _⟩ := hO.shape
        have HR : Hid (ROwn wr w.heap.size u10 pre) := ⟨hO⟩
        clear hO hat hpt hdr hpre hpn
        subst hv
        by_cases hbe : b = E
        · obtain rfl : KV = -1 := by rw [← hKV, if_pos hbe]
          have hbb : (b == E) = true := beq_iff_eq.2 hbe
          clear h2 h3 h4 h5 h6 hKV
          go_wp2_with fail
          exact bodyPost_ret (v := .tuple #[.slice pv pre.length cv, .int .i64 (-1), .int .i64 0]) (by simp [results, Try.results23, go_sem]) rfl ⟨_, rfl, HR.out, hB⟩
        · obtain rfl : b = KV := by rw [← hKV, if_neg hbe]
          have hbb : (b == E) = false := beq_eq_false_iff_ne.2 hbe
          go_wp2_with fail
          exact bodyPost_ret (v := .tuple #[.slice pv pre.length cv, .int .i64 b, .int .i64 0]) (by simp [results, Try.results23, go_sem]) rfl ⟨_, rfl, HR.out, hB⟩
end Go.Proofs.Ytjdinlgbfpkodaa

/- The tree's printer: put. -/
import Derived.Test.YtchfphakhmifmaaGreatDoorTPp
namespace Go.Proofs.YtchfphakhmifmaaGreatDoor
open Go.ChangeShapes Go.WideShapes Go.ChangeAt Go.RowKit Go.Lib

theorem elB_cell {W : World} {X : Nat} {e : El} {v : Value} (h : W.heap[X]? = some (elB e v)) : W.cell? ⟨X, 1, none⟩ = some (.string e.nm) ∧ W.cell? ⟨X, 2, none⟩ = some v ∧ W.cell? ⟨X, 3, none⟩ = some (.string e.tx) := by
  refine ⟨?_, ?_, ?_⟩ <;> (simp only [World.cell?, h]; rfl)
theorem putP_true (e : El) (hb : Bool) (h : leaf e hb = true) : putP e hb = pcO e.nm :: (e.ats.map pcA ++ [pcM]) := by unfold putP; rw [if_pos h]
theorem putP_none (e : El) (hb : Bool) (h : leaf e hb = false) (h0 : e.tx.size = 0) : putP e hb = pcO e.nm :: (e.ats.map pcA ++ [pcE]) := by unfold putP; rw [h]; simp [h0]
theorem putP_text (e : El) (hb : Bool) (h : leaf e hb = false) (h0 : ¬ e.tx.size = 0) : putP e hb = pcO e.nm :: (e.ats.map pcA ++ [pcE, pcT e.tx]) := by unfold putP; rw [h]; simp [h0]
/-- The name is put behind what is open. -/
theorem PP.name {w : World} {R bot : Nat} {vO vN : Value} {ts : List IT} {st : List ByteArray} (h : PP w R bot vO vN ts st.reverse) (nm : ByteArray) (hn : st.length ≤ 1000000) :
    ∃ v2 w2, (∀ ty, (Builtin.append_ #[86, 86] ty #[vN, .slice (some ⟨w.heap.size, 0, none⟩) 1 1]).run Tryz.prog (w.alloc (.cells #[.string nm] 9)).drew = .ok v2 w2) ∧
      (∃ p n c, v2 = .slice p n c) ∧ w2.cell? ⟨R, 1, none⟩ = some vN ∧ w2.frozen? ⟨R, 1, none⟩ = false ∧ (w.alloc (.cells #[.string nm] 9)).cell? ⟨R, 1, none⟩ = some vN ∧ Pk R vO vN vO v2 w (w2.setCell ⟨R, 1, none⟩ v2) ∧ PP (w2.setCell ⟨R, 1, none⟩ v2) R bot vO v2 ts (nm :: st).reverse := by
  have hB2 : Below w.heap.size w (w.alloc (.cells #[.string nm] 9)).drew := (bel1 w _).drew
  have hRl : R < w.heap.size := Nat.lt_of_lt_of_le h.lt h.hB
  obtain ⟨v2, w2, hrun, hown, hgr, hbk⟩ := pap1 (t := 86) Tryz.underlying86 infoStr rfl (by decide) (h.keep hB2).own1 (heap_new w (.cells #[.string nm] 9)) rfl (fun u hu => by simp only [List.mem_cons, List.not_mem_nil, or_false] at hu; subst hu; rfl) (by rw [List.length_reverse]; omega) (by decide) (Nat.le_trans h.hB hB2.size)
  have hown2 : w2.ownsRow bot 9 1 v2 (nm :: st).reverse.length ((nm :: st).reverse.map .string) := by
    rw [List.reverse_cons, List.length_append, List.map_append]
    exact hown
  obtain ⟨k, p, q1, q2⟩ := h.put1 hB2 hown2 hgr hbk
  obtain ⟨p3, c3, hv⟩ := own_sl hown2
  exact ⟨v2, w2, hrun, ⟨_, _, _, hv⟩, q1, q2, ((bel1 w _).cell (p := ⟨R, 1, none⟩) hRl).trans h.c1, k, p⟩
set_option maxRecDepth 100000 in
set_option maxHeartbeats 8000000 in
theorem put_any (R bot : Nat) (vO vN : Value) (ts : List IT) (st : List ByteArray) (e : El) (pa : Option Addr) (ca : Nat) (hb : Bool) (w : World) (hp : PP w R bot vO vN ts st.reverse) (ha : ARow w pa R e.ats) (hl : e.ats.length ≤ 1000000) (hn : ts.length + e.ats.length + 4 ≤ 1000000000) (hs : st.length ≤ 1000000) :
    Calls Tryz.prog 52 #[.pointer (some ⟨R, 0, none⟩), elW e (.slice pa e.ats.length ca), .bool hb] w fun r w' => r = .returned (.tuple #[]) ∧ ∃ vO' vN', Pk R vO vN vO' vN' w w' ∧ PP w' R bot vO' vN' (ts ++ putP e hb) (putS e hb st).reverse := by
  obtain ⟨pN, cN, hvN⟩ := own_sl hp.own1
  rw [List.length_reverse] at hvN
  subst hvN
  have hb0 := bel1 w (elB e (.slice pa e.ats.length ca))
  have hN := heap_new w (elB e (.slice pa e.ats.length ca))
  have hp0 := hp.keep hb0
  have hbl : ∀ k, vO.ownBlock = some k → k < w.heap.size := fun k hk => (ownLt hp.own0 hk).2
  have hbl1 : ∀ k, (Value.slice pN st.length cN).ownBlock = some k → k < w.heap.size := fun k hk => (ownLt hp.own1 hk).2
  have hRl : R < w.heap.size := Nat.lt_of_lt_of_le hp.lt hp.hB
  have HPk : Hid (∀ v n W, Pk R vO (.slice pN st.length cN) v n (w.alloc (elB e (.slice pa e.ats.length ca))) W → Pk R vO (.slice pN st.length cN) v n w W) := Hid.mkP fun v n W h => (Pk.of hb0).trans h
  have HAr : Hid (∀ v n W, Pk R vO (.slice pN st.length cN) v n w W → ARow W pa R e.ats) := Hid.mkP fun v n W h => ha.below (h.below hp)
  generalize hW0 : w.alloc (elB e (.slice pa e.ats.length ca)) = W0 at hb0 hN hp0 HPk
  have hs0 : w.heap.size < W0.heap.size := by rw [← hW0, World.size_alloc]; omega
  have HBx : Hid (∀ v n W, Pk R vO (.slice pN st.length cN) v n W0 W → W.cell? ⟨w.heap.size, 1, none⟩ = some (.string e.nm) ∧ W.cell? ⟨w.heap.size, 2, none⟩ = some (.slice pa e.ats.length ca) ∧ W.cell? ⟨w.heap.size, 3, none⟩ = some (.string e.tx)) := Hid.mkP fun v n W h =>
    elB_cell ((h.block w.heap.size hs0 (by omega) (fun e => by have := hbl _ e; omega) (fun e => by have := hbl1 _ e; omega)).trans hN)
  obtain ⟨x1, x2, x3⟩ := HBx.out _ _ W0 (Pk.refl _ _ _ _)
  have c := ptell_any R bot vO (.slice pN st.length cN) ts st.reverse ⟨0, e.nm, ⟨#[]⟩, 0⟩ W0 hp0 (by omega)
  have HS : Hid (st.length ≤ 1000000) := Hid.mkP hs
  clear hb0 hN hp0 hbl hbl1 hs0 ha hs hRl hp
  go_enter Tryz.func52, Tryz.ntmps52
  go_wp2_with (go_at_call 76; refine c.mono ?_; rintro _ w1 ⟨rfl, v1, k1, p1⟩; obtain ⟨y1, y2, y3⟩ := HBx.out _ _ w1 k1)
  clear c hW0 x1 x2 x3
  go_loopw [16] (fun i wr => ∃ (j : Nat) (v2 : Value), j ≤ e.ats.length ∧ i = .int .i64 j ∧ Pk R vO (.slice pN st.length cN) v2 (.slice pN st.length cN) W0 wr ∧ PP wr R bot v2 (.slice pN st.length cN) (ts ++ pcO e.nm :: (e.ats.take j).map pcA) st.reverse) (fun i _ => e.ats.length - (RowKit.intOf i).toNat)
  case atStart => exact ⟨0, v1, Nat.zero_le _, rfl, k1, p1⟩
  case round =>
    obtain ⟨j, v2, hj, rfl, k2, p2⟩ := hrel
    obtain ⟨z1, z2, z3⟩ := HBx.out _ _ wr k2
    by_cases hlt : j < e.ats.length
    · obtain ⟨a, hx⟩ : ∃ a, e.ats[j]? = some a := ⟨e.ats[j], List.getElem?_eq_getElem hlt⟩
      obtain ⟨g, o, rfl, hg, q0, q1, q2⟩ := (HAr.out _ _ wr (HPk.out _ _ _ k2)).c j a hx
      have hlti : (j : Int) < e.ats.length := by omega
      have hb1 := bel1 wr (attO a)
      have hA := heap_new wr (attO a)
      have a0 : (wr.alloc (attO a)).cell? ⟨wr.heap.size, 0, none⟩ = some (.string a.nm) := by simp only [World.cell?, hA]; rfl
      have a1 : (wr.alloc (attO a)).cell? ⟨wr.heap.size, 1, none⟩ = some (.string a.vl) := by simp only [World.cell?, hA]; rfl
      have c := ptell_any R bot v2 (.slice pN st.length cN) _ st.reverse ⟨1, a.nm, a.vl, 0⟩ _ (p2.keep hb1) (by simp; omega)
      have hk3 := k2.trans (Pk.of (R := R) (vO := v2) (vN := .slice pN st.length cN) hb1)
      have et : (ts ++ pcO e.nm :: (e.ats.take j).map pcA) ++ [⟨1, a.nm, a.vl, 0⟩] = ts ++ pcO e.nm :: (e.ats.take (j + 1)).map pcA := by
        rw [List.take_add_one, hx, List.map_append, List.append_assoc]
        rfl
      rw [et] at c
      clear et hA hb1 hx p2
      obtain ⟨an, av, ap⟩ := a
      simp only at q0 q1 q2 a0 a1 c hk3
      go_wp2_with (go_at_call 76; refine c.mono ?_; rintro _ w3 ⟨rfl, v3, k3, p3⟩)
      go_roundw
      case rel => exact ⟨j + 1, v3, by omega, by go_num, hk3.trans k3, p3⟩
      case measure => simp [RowKit.intOf]; omega
    · obtain rfl : j = e.ats.length := by omega
      rw [List.take_length] at p2
      have hlt2 : ¬ ((e.ats.length : Int) < e.ats.length) := by omega
      have htx : ∀ h : e.tx.size = 0, e.tx = ⟨#[]⟩ := fun h => size_zero h
      cases hb
      · by_cases h0 : e.tx.size = 0
        · have hlf : leaf e false = true := by unfold leaf; simp [h0]
          have HE : Hid (putP e false = pcO e.nm :: (e.ats.map pcA ++ [pcM]) ∧ putS e false st = st) := Hid.mkP ⟨putP_true e false hlf, by unfold putS; rw [if_pos hlf]⟩
          have ht := htx h0
          rw [ht] at z3
          have c := ptell_any R bot v2 (.slice pN st.length cN) _ st.reverse ⟨3, ⟨#[]⟩, ⟨#[]⟩, 0⟩ wr p2 (by simp; omega)
          have et : (ts ++ pcO e.nm :: e.ats.map pcA) ++ [⟨3, ⟨#[]⟩, ⟨#[]⟩, 0⟩] = ts ++ pcO e.nm :: (e.ats.map pcA ++ [pcM]) := by rw [List.append_assoc]; rfl
          rw [et] at c
          clear et hlf ht h0 htx p2 HAr HBx
          go_wp2_with fail
          refine c.mono ?_
          rintro _ w3 ⟨rfl, v3, k3, p3⟩
          go_wp2_with fail
          exact bodyPost_ret (v := .tuple #[]) (by simp [results, Tryz.results52, go_sem]) rfl ⟨rfl, _, _, HPk.out _ _ _ (k2.trans k3), by rw [HE.out.1, HE.out.2]; exact p3⟩
        · have hlf : leaf e false = false := by unfold leaf; simp [h0]
          have HE : Hid (putP e false = pcO e.nm :: (e.ats.map pcA ++ [pcE, pcT e.tx]) ∧ putS e false st = e.nm :: st) := Hid.mkP ⟨putP_text e false hlf h0, by unfold putS; rw [hlf]; rfl⟩
          have hne : e.tx ≠ ⟨#[]⟩ := fun hh => h0 (by rw [hh]; rfl)
          have y4 := lst_ne e.tx (by omega)
          have y5 : (e.tx.toList != []) = true := by rw [bne, y4]; rfl
          have c := ptell_any R bot v2 (.slice pN st.length cN) _ st.reverse ⟨2, ⟨#[]⟩, ⟨#[]⟩, 0⟩ wr p2 (by simp; omega)
          have hlen : ((ts ++ pcO e.nm :: e.ats.map pcA) ++ ([⟨2, ⟨#[]⟩, ⟨#[]⟩, 0⟩] : List IT)).length ≤ 1000000000 := by simp; omega
          clear hlf h0 htx p2 HAr
          go_wp2_with fail
          refine c.mono ?_
          rintro _ w3 ⟨rfl, v3, k3, p3⟩
          obtain ⟨b1, b2, b3⟩ := HBx.out _ _ w3 (k2.trans k3)
          clear c z1 z2 z3
          go_wp2_with fail
          refine (ptell_any R bot v3 (.slice pN st.length cN) _ st.reverse ⟨5, ⟨#[]⟩, e.tx, 0⟩ w3 p3 hlen).mono ?_
          rintro _ w4 ⟨rfl, v4, k4, p4⟩
          obtain ⟨d1, d2, d3⟩ := HBx.out _ _ w4 ((k2.trans k3).trans k4)
          have k9 := HPk.out _ _ _ ((k2.trans k3).trans k4)
          clear b1 b2 b3 p3
          obtain ⟨vX, wX, hrun, ⟨pX, nX, cX, rfl⟩, x1, x2, x3, kX, pX'⟩ := p4.name e.nm HS.out
          have e1 := p4.c1
          have HZ : Hid (∃ vO' vN', Pk R vO (.slice pN st.length cN) vO' vN' w (wX.setCell ⟨R, 1, none⟩ (.slice pX nX cX)) ∧ PP (wX.setCell ⟨R, 1, none⟩ (.slice pX nX cX)) R bot vO' vN' (ts ++ putP e false) (putS e false st).reverse) := Hid.mkP ⟨_, _, k9.trans kX, by
            have et : ts ++ putP e false = (ts ++ pcO e.nm :: e.ats.map pcA) ++ [⟨2, ⟨#[]⟩, ⟨#[]⟩, 0⟩] ++ [⟨5, ⟨#[]⟩, e.tx, 0⟩] := by rw [HE.out.1, List.append_assoc]; simp [pcE, pcT]; try rfl
            rw [et, HE.out.2]
            exact pX'⟩
          clear kX pX' p4 k9 k2 k3 HE HBx HPk k4
          go_wp2_with fail
          go_region_law (refine step_append_ex ?_ (.tmp 53) (.tmp 56) _ _ ?_ _ _ ?_ ?_ (fun a b => a = _ ∧ b = wX) ⟨_, wX, hrun, rfl, rfl⟩ ?_; rfl; rfl; rfl; rfl; rintro _ _ ⟨rfl, rfl⟩)
          all_goals
            go_wp2_with fail
            go_end0
            exact ⟨rfl, HZ.out⟩
      · by_cases h0 : e.tx.size = 0
        · have hlf : leaf e true = false := by unfold leaf; rfl
          have HE : Hid (putP e true = pcO e.nm :: (e.ats.map pcA ++ [pcE]) ∧ putS e true st = e.nm :: st) := Hid.mkP ⟨putP_none e true hlf h0, by unfold putS; rw [hlf]; rfl⟩
          have ht := htx h0
          rw [ht] at z3
          have c := ptell_any R bot v2 (.slice pN st.length cN) _ st.reverse ⟨2, ⟨#[]⟩, ⟨#[]⟩, 0⟩ wr p2 (by simp; omega)
          have hlen : ((ts ++ pcO e.nm :: e.ats.map pcA) ++ ([⟨2, ⟨#[]⟩, ⟨#[]⟩, 0⟩] : List IT)).length ≤ 1000000000 := by simp; omega
          clear hlf h0 htx p2 HAr
          go_wp2_with fail
          refine c.mono ?_
          rintro _ w3 ⟨rfl, v3, k3, p3⟩
          obtain ⟨b1, b2, b3⟩ := HBx.out _ _ w3 (k2.trans k3)
          rw [ht] at b3
          clear c z1 z2 z3
          have k9 := HPk.out _ _ _ (k2.trans k3)
          obtain ⟨vX, wX, hrun, ⟨pX, nX, cX, rfl⟩, x1, x2, x3, kX, pX'⟩ := p3.name e.nm HS.out
          have e1 := p3.c1
          have HZ : Hid (∃ vO' vN', Pk R vO (.slice pN st.length cN) vO' vN' w (wX.setCell ⟨R, 1, none⟩ (.slice pX nX cX)) ∧ PP (wX.setCell ⟨R, 1, none⟩ (.slice pX nX cX)) R bot vO' vN' (ts ++ putP e true) (putS e true st).reverse) := Hid.mkP ⟨_, _, k9.trans kX, by
            have et : ts ++ putP e true = (ts ++ pcO e.nm :: e.ats.map pcA) ++ [⟨2, ⟨#[]⟩, ⟨#[]⟩, 0⟩] := by rw [HE.out.1, List.append_assoc]; simp [pcE]; try rfl
            rw [et, HE.out.2]
            exact pX'⟩
          clear kX pX' p3 k9 k2 k3 HE HBx HPk
          go_wp2_with fail
          go_region_law (refine step_append_ex ?_ (.tmp 53) (.tmp 56) _ _ ?_ _ _ ?_ ?_ (fun a b => a = _ ∧ b = wX) ⟨_, wX, hrun, rfl, rfl⟩ ?_; rfl; rfl; rfl; rfl; rintro _ _ ⟨rfl, rfl⟩)
          all_goals
            go_wp2_with fail
            go_end0
            exact ⟨rfl, HZ.out⟩
        · have hlf : leaf e true = false := by unfold leaf; rfl
          have HE : Hid (putP e true = pcO e.nm :: (e.ats.map pcA ++ [pcE, pcT e.tx]) ∧ putS e true st = e.nm :: st) := Hid.mkP ⟨putP_text e true hlf h0, by unfold putS; rw [hlf]; rfl⟩
          have hne : e.tx ≠ ⟨#[]⟩ := fun hh => h0 (by rw [hh]; rfl)
          have y4 := lst_ne e.tx (by omega)
          have y5 : (e.tx.toList != []) = true := by rw [bne, y4]; rfl
          have c := ptell_any R bot v2 (.slice pN st.length cN) _ st.reverse ⟨2, ⟨#[]⟩, ⟨#[]⟩, 0⟩ wr p2 (by simp; omega)
          have hlen : ((ts ++ pcO e.nm :: e.ats.map pcA) ++ ([⟨2, ⟨#[]⟩, ⟨#[]⟩, 0⟩] : List IT)).length ≤ 1000000000 := by simp; omega
          clear hlf h0 htx p2 HAr
          go_wp2_with fail
          refine c.mono ?_
          rintro _ w3 ⟨rfl, v3, k3, p3⟩
          obtain ⟨b1, b2, b3⟩ := HBx.out _ _ w3 (k2.trans k3)
          clear c z1 z2 z3
          go_wp2_with fail
          refine (ptell_any R bot v3 (.slice pN st.length cN) _ st.reverse ⟨5, ⟨#[]⟩, e.tx, 0⟩ w3 p3 hlen).mono ?_
          rintro _ w4 ⟨rfl, v4, k4, p4⟩
          obtain ⟨d1, d2, d3⟩ := HBx.out _ _ w4 ((k2.trans k3).trans k4)
          have k9 := HPk.out _ _ _ ((k2.trans k3).trans k4)
          clear b1 b2 b3 p3
          obtain ⟨vX, wX, hrun, ⟨pX, nX, cX, rfl⟩, x1, x2, x3, kX, pX'⟩ := p4.name e.nm HS.out
          have e1 := p4.c1
          have HZ : Hid (∃ vO' vN', Pk R vO (.slice pN st.length cN) vO' vN' w (wX.setCell ⟨R, 1, none⟩ (.slice pX nX cX)) ∧ PP (wX.setCell ⟨R, 1, none⟩ (.slice pX nX cX)) R bot vO' vN' (ts ++ putP e true) (putS e true st).reverse) := Hid.mkP ⟨_, _, k9.trans kX, by
            have et : ts ++ putP e true = (ts ++ pcO e.nm :: e.ats.map pcA) ++ [⟨2, ⟨#[]⟩, ⟨#[]⟩, 0⟩] ++ [⟨5, ⟨#[]⟩, e.tx, 0⟩] := by rw [HE.out.1, List.append_assoc]; simp [pcE, pcT]; try rfl
            rw [et, HE.out.2]
            exact pX'⟩
          clear kX pX' p4 k9 k2 k3 HE HBx HPk k4
          go_wp2_with fail
          go_region_law (refine step_append_ex ?_ (.tmp 53) (.tmp 56) _ _ ?_ _ _ ?_ ?_ (fun a b => a = _ ∧ b = wX) ⟨_, wX, hrun, rfl, rfl⟩ ?_; rfl; rfl; rfl; rfl; rintro _ _ ⟨rfl, rfl⟩)
          all_goals
            go_wp2_with fail
            go_end0
            exact ⟨rfl, HZ.out⟩
end Go.Proofs.YtchfphakhmifmaaGreatDoor

/- The tree's checker: Check. -/
import Derived.Test.YtchfphakhmifmaaGreatDoorTCk
import Derived.Test.YtchfphakhmifmaaGreatDoorPA
namespace Go.Proofs.YtchfphakhmifmaaGreatDoor
open Go.ChangeShapes Go.WideShapes Go.ChangeAt Go.RowKit Go.Lib

/-- Elements in memory; each list of attributes has the room that its slice tells. -/
structure EC (w : World) (pp : Option Addr) (H : Nat) (es : List El) : Prop where
  c : ∀ (i : Nat) (e : El), es[i]? = some e → ∃ g o pa ca, pp = some ⟨g, o, none⟩ ∧ g < H ∧ w.cell? ⟨g, o + i * 5, none⟩ = some (.int .i64 e.d) ∧ w.cell? ⟨g, o + i * 5 + 1, none⟩ = some (.string e.nm) ∧ w.cell? ⟨g, o + i * 5 + 2, none⟩ = some (.slice pa e.ats.length ca) ∧
    w.cell? ⟨g, o + i * 5 + 3, none⟩ = some (.string e.tx) ∧ w.cell? ⟨g, o + i * 5 + 4, none⟩ = some (.int .i64 e.p) ∧ ARow w pa H e.ats ∧ e.ats.length ≤ ca
theorem EC.erow {w : World} {pp : Option Addr} {H : Nat} {es : List El} (h : EC w pp H es) : ERow w pp H es :=
  ⟨fun i t ht => by
    obtain ⟨g, o, pa, ca, e, hg, h0, h1, h2, h3, h4, h5, _⟩ := h.c i t ht
    exact ⟨g, o, pa, ca, e, hg, h0, h1, h2, h3, h4, h5⟩⟩
theorem EC.below {w w' : World} {pp : Option Addr} {H : Nat} {es : List El} (h : EC w pp H es) (hb : Below H w w') : EC w' pp H es :=
  ⟨fun i t ht => by
    obtain ⟨g, o, pa, ca, e, hg, h0, h1, h2, h3, h4, h5, h6⟩ := h.c i t ht
    exact ⟨g, o, pa, ca, e, hg, (hb.cell (p := ⟨g, _, none⟩) hg).trans h0, (hb.cell (p := ⟨g, _, none⟩) hg).trans h1, (hb.cell (p := ⟨g, _, none⟩) hg).trans h2, (hb.cell (p := ⟨g, _, none⟩) hg).trans h3, (hb.cell (p := ⟨g, _, none⟩) hg).trans h4, h5.below hb, h6⟩⟩
theorem EC.mono {w : World} {pp : Option Addr} {H H' : Nat} {es : List El} (h : EC w pp H es) (hH : H ≤ H') : EC w pp H' es :=
  ⟨fun i t ht => by
    obtain ⟨g, o, pa, ca, e, hg, h0, h1, h2, h3, h4, h5, h6⟩ := h.c i t ht
    exact ⟨g, o, pa, ca, e, Nat.lt_of_lt_of_le hg hH, h0, h1, h2, h3, h4, h5.mono hH, h6⟩⟩
theorem CRow.ec {w : World} {base g cap : Nat} {es : List El} (h : CRow w base g cap es) : EC w (some ⟨g, 0, none⟩) w.heap.size es :=
  ⟨fun i t ht => by
    obtain ⟨g1, o1, pa, ca, e, hg, h0, h1, h2, h3, h4, h5⟩ := h.er.c i t ht
    cases e
    obtain ⟨ga, ca2, k1, k2, -, -⟩ := h.at_ i t ht
    rw [Nat.zero_add] at h2
    rw [h2] at k1
    cases k1
    exact ⟨g, 0, _, ca, rfl, hg, h0, h1, by rw [Nat.zero_add]; exact h2, h3, h4, h5, by omega⟩⟩
/-- What is asked of the sizes. -/
structure PSz (es : List El) : Prop where
  n : es.length ≤ 1048576
  d : ∀ e ∈ es, -9223372036854775808 ≤ e.d ∧ e.d ≤ 9223372036854775807
  s : ∀ e ∈ es, e.nm.size ≤ 1048576 ∧ e.tx.size ≤ 1048576 ∧ e.ats.length ≤ 1048576 ∧ ∀ a ∈ e.ats, a.nm.size ≤ 1048576 ∧ a.vl.size ≤ 1048576
theorem chkF_at {es : List El} {j : Nat} {e : El} (ah : Int) (h : es[j]? = some e) : chkF (es.drop j) j ah = if elE j ah e = 0 then chkF (es.drop (j + 1)) (j + 1) e.d else (elE j ah e, j) := by
  obtain ⟨hl, e1⟩ := List.getElem?_eq_some_iff.1 h
  rw [List.drop_eq_getElem_cons hl, e1, chkF]
theorem elE_d {n : Nat} {ahead : Int} {e : El} (h : elE n ahead e = 0) : 1 ≤ e.d ∧ e.d ≤ 16 := by
  unfold elE at h
  split at h
  · cases h
  · split at h
    · cases h
    · split at h
      · cases h
      · rename_i h1 h2 h3
        omega
set_option maxRecDepth 100000 in
set_option maxHeartbeats 4000000 in
theorem tCheck_any (pp : Option Addr) (cp : Nat) (es : List El) (w : World) (hr : EC w pp w.heap.size es) (hz : PSz es) :
    Calls Tryz.prog 12 #[.slice pp es.length cp] w fun e w' => e = .returned (.tuple #[.int .i64 ((chkZ es).1 : Int), .int .i64 ((chkZ es).2 : Int)]) ∧ Below w.heap.size w w' := by
  by_cases h0 : es = []
  · subst h0
    go_enter Tryz.func12, Tryz.ntmps12
    go_wp2_with fail
    exact bodyPost_ret (v := .tuple #[.int .i64 53, .int .i64 0]) (by simp [results, Tryz.results12, go_sem]) rfl ⟨rfl, Below.refl _ _⟩
  · have hlp : 0 < es.length := List.length_pos_iff.2 h0
    have hc : chkZ es = chkF es 0 0 := by unfold chkZ; rw [if_neg h0]
    rw [hc]
    have z0 : ((es.length : Int) == 0) = false := beq_eq_false_iff_ne.2 (by omega)
    have hn := hz.n
    clear h0 hc
    go_enter Tryz.func12, Tryz.ntmps12
    go_wp2_with fail
    clear z0
    go_loopw [4, 5, 13] (fun a i n wr => ∃ (j : Nat) (ah : Int), j ≤ es.length ∧ 0 ≤ ah ∧ ah ≤ 16 ∧ a = .int .i64 ah ∧ n = .int .i64 j ∧ Below w.heap.size w wr ∧ Hid (chkF es 0 0 = chkF (es.drop j) j ah) ∧ i = i) (fun _ _ n _ => es.length - (RowKit.intOf n).toNat)
    case atStart => exact ⟨0, 0, Nat.zero_le _, by decide, by decide, rfl, by go_num, Below.refl _ _, Hid.mkA rfl, rfl⟩
    case round =>
      obtain ⟨j, ah, hj, ha0, ha1, rfl, rfl, hb, hq, -⟩ := hrel
      by_cases hlt : j < es.length
      · obtain ⟨e, hx⟩ : ∃ e, es[j]? = some e := ⟨es[j], List.getElem?_eq_getElem hlt⟩
        obtain ⟨g, o, pa, ca, rfl, hg, q0, q1, q2, q3, q4, hA, hca⟩ := (hr.below hb).c j e hx
        have hmem := List.mem_of_getElem? hx
        have hs := hz.s e hmem
        have hb1 := bel1 wr (elB e (.slice pa e.ats.length ca))
        have hN := aheap_new wr (elB e (.slice pa e.ats.length ca))
        have hT : Below w.heap.size w (wr.alloc (elB e (.slice pa e.ats.length ca))) := hb.trans (hb1.mono hb.size)
        have c := checkElem_any j e ah pa ca (wr.alloc (elB e (.slice pa e.ats.length ca))) (((hA.mono hb.size).below hb1).mono hb1.size) hca ⟨by omega, by omega, by omega, fun a ha => by have := hs.2.2.2 a ha; omega⟩ (hz.d e hmem) ⟨ha0, ha1⟩ (by omega)
        have HB : Hid (∀ W, Below (wr.alloc (elB e (.slice pa e.ats.length ca))).heap.size (wr.alloc (elB e (.slice pa e.ats.length ca))) W → Below w.heap.size w W ∧ W.cell? ⟨wr.heap.size, 0, none⟩ = some (.int .i64 e.d)) := Hid.mkA fun W hW => ⟨hT.trans (hW.mono hT.size), by
          have hh := (hW.block wr.heap.size (by rw [World.size_alloc]; omega)).trans hN
          simp only [World.cell?, hh]; rfl⟩
        have hlti : (j : Int) < es.length := by omega
        have hF := chkF_at ah hx
        clear hx hz hr hA hca hs hmem hb1 hN hT
        by_cases he : elE j ah e = 0
        · have hd := elE_d he
          rw [he] at c
          rw [if_pos he] at hF
          have HX : Hid (chkF es 0 0 = chkF (es.drop (j + 1)) (j + 1) e.d) := Hid.mkA (hq.out.trans hF)
          clear hF hq he
          obtain ⟨xd, xn, xa, xt, xp⟩ := e
          simp only at q0 q1 q2 q3 q4 c HB HX hd
          go_wp2_with (go_at_call 27; refine c.mono ?_; rintro _ w1 ⟨rfl, hb2⟩; obtain ⟨hT, m0⟩ := HB.out w1 hb2)
          go_roundw
          case rel => exact ⟨j + 1, xd, by omega, by omega, hd.2, rfl, by go_num, hT, HX, trivial⟩
          case measure => simp [RowKit.intOf]; omega
        · rw [if_neg he] at hF
          have HX : Hid (chkF es 0 0 = (elE j ah e, j)) := Hid.mkA (hq.out.trans hF)
          have z1 : ((elE j ah e : Int) == 0) = false := beq_eq_false_iff_ne.2 (by omega)
          have z2 : ((elE j ah e : Int) != 0) = true := by rw [bne, z1]; rfl
          clear hF hq
          generalize elE j ah e = er at c z1 z2 HX he
          obtain ⟨xd, xn, xa, xt, xp⟩ := e
          simp only at q0 q1 q2 q3 q4 c HB HX
          go_wp2_with (go_at_call 27; refine c.mono ?_; rintro _ w1 ⟨rfl, hb2⟩; obtain ⟨hT, m0⟩ := HB.out w1 hb2)
          exact bodyPost_ret (v := .tuple #[.int .i64 (er : Int), .int .i64 (j : Int)]) (by simp [results, Tryz.results12, go_sem]) rfl ⟨by rw [HX.out], hT⟩
      · obtain rfl : j = es.length := by omega
        have HX : Hid (chkF es 0 0 = (0, 0)) := Hid.mkA (by rw [hq.out, List.drop_length]; rfl)
        clear hq
        go_wp2_with fail
        exact bodyPost_ret (v := .tuple #[.int .i64 0, .int .i64 0]) (by simp [results, Tryz.results12, go_sem]) rfl ⟨by rw [HX.out]; rfl, hb⟩
end Go.Proofs.YtchfphakhmifmaaGreatDoor

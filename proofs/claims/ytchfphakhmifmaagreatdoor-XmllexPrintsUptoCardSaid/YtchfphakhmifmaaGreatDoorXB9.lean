/- The document's answer: Print. -/
import Derived.Test.YtchfphakhmifmaaGreatDoorXB7b
import Derived.Test.YtchfphakhmifmaaGreatDoorXB7c
import Derived.Test.YtchfphakhmifmaaGreatDoorXB8
namespace Go.Proofs.YtchfphakhmifmaaGreatDoor
open Go.ChangeShapes Go.WideShapes Go.ChangeAt Go.RowKit Go.Shelf Go.Lib

set_option maxRecDepth 100000 in
set_option maxHeartbeats 4000000 in
theorem rwrong_out (k : Int) (ho : k < 0 ∨ 8 ≤ k) : WrongAt k := by
  intro g o cp n i nm vl p last w hn hv hi hn48 hg q0 q1 q2 q3 hl
  have hi2 : (i : Int) < (n : Int) := by omega
  have HB := Hid.mk' (bel1 w (.cells #[.int .i64 k, .string nm, .string vl, .int .i64 p] 39))
  have cS := fun w => rshape k nm vl p w
  have hS : shpB k nm vl = false := by
    unfold shpB
    rw [if_neg (by omega), if_neg (by omega), if_neg (by omega), if_neg (by omega), if_neg (by omega)]
  rw [hS] at cS
  have hz : Hid (putE last ⟨k, nm, vl, p⟩ = 40) := if_pos ho
  have e1 : (k == 1) = false := beq_eq_false_iff_ne.2 (by omega)
  have e2 : (k == 2) = false := beq_eq_false_iff_ne.2 (by omega)
  have e3 : (k == 3) = false := beq_eq_false_iff_ne.2 (by omega)
  clear hS ho
  cases hT : inT last
  all_goals
    go_enter Tryz.func38, Tryz.ntmps38
    go_wp2_with (go_at_call 60; refine (cS _).mono ?_; clear cS; rintro e w1 ⟨rfl, hb1⟩; replace HB := Hid.mk' (HB.out.trans (hb1.mono HB.out.size)))
    go_ret
    exact ⟨by rw [hz.out]; rfl, HB.out⟩
theorem rwrong (k : Int) : WrongAt k := by
  by_cases ho : k < 0 ∨ 8 ≤ k
  · exact rwrong_out k ho
  · have hk : k = 0 ∨ k = 1 ∨ k = 2 ∨ k = 3 ∨ k = 4 ∨ k = 5 ∨ k = 6 ∨ k = 7 := by omega
    rcases hk with rfl | rfl | rfl | rfl | rfl | rfl | rfl | rfl
    · exact rwrong_0
    · exact rwrong_1
    · exact rwrong_2
    · exact rwrong_3
    · exact rwrong_4
    · exact rwrong_5
    · exact rwrong_6
    · exact rwrong_7
/-- What the loop has gathered: its size, its bytes while they are not too many, and what the program's printer would have. -/
structure PG (ts : List IT) (k SZ : Nat) (L Lp : List Nat) (last : Int) : Prop where
  z : prZ (ts.drop k) k last L = prZ ts 0 (-1) []
  sz : SZ ≤ k * 16777216
  l : (SZ ≤ 1048576 ∧ Lp = L ∧ L.length = SZ) ∨ (1048576 < SZ ∧ 1048576 < L.length)
  b : Lp.length ≤ 1048576
  last : (k = 0 ∧ last = -1) ∨ (0 < k ∧ ∃ t', ts[k - 1]? = some t' ∧ t'.k = last ∧ 0 ≤ last ∧ last < 8)
theorem drop_at {ts : List IT} {k : Nat} {t : IT} (h : ts[k]? = some t) : ts.drop k = t :: ts.drop (k + 1) := by
  have hlt : k < ts.length := by
    rcases Nat.lt_or_ge k ts.length with h1 | h1
    · exact h1
    · rw [List.getElem?_eq_none h1] at h; cases h
  rw [List.drop_eq_getElem_cons hlt]
  congr 1
  rw [List.getElem?_eq_getElem hlt] at h
  exact Option.some.inj h
theorem PG.next {ts : List IT} {k SZ : Nat} {L Lp : List Nat} {last : Int} (h : PG ts k SZ L Lp last) {t : IT} (ht : ts[k]? = some t) (h0 : putE last t = 0) (hn : t.nm.size ≤ 1048576) (hv : t.vl.size ≤ 1048576) :
    (SZ + (wrB t.k.toNat t.nm t.vl).size ≤ 1048576 → PG ts (k + 1) (SZ + (wrB t.k.toNat t.nm t.vl).size) (putL L t) (Lp ++ lOf (wrB t.k.toNat t.nm t.vl)) t.k) ∧
    (¬ SZ + (wrB t.k.toNat t.nm t.vl).size ≤ 1048576 → PG ts (k + 1) (SZ + (wrB t.k.toNat t.nm t.vl).size) (putL L t) Lp t.k) := by
  have hz := h.z
  rw [drop_at ht] at hz
  simp only [prZ] at hz
  rw [if_pos h0] at hz
  have hw := wrB_size t.k.toNat t.nm t.vl
  have hsz := h.sz
  have hl := h.l
  have hb := h.b
  have hk : 0 ≤ t.k ∧ t.k < 8 := by
    by_cases ho : t.k < 0 ∨ 8 ≤ t.k
    · have : putE last t = 40 := if_pos ho
      rw [this] at h0; cases h0
    · omega
  have hlast : (k + 1 = 0 ∧ t.k = -1) ∨ (0 < k + 1 ∧ ∃ t', ts[k + 1 - 1]? = some t' ∧ t'.k = t.k ∧ 0 ≤ t.k ∧ t.k < 8) := .inr ⟨Nat.succ_pos _, t, ht, rfl, hk⟩
  have hl1 : (lOf (wrB t.k.toNat t.nm t.vl)).length = (wrB t.k.toNat t.nm t.vl).size := lOf_length _
  refine ⟨fun hle => ⟨hz, by omega, .inl ⟨hle, ?_, ?_⟩, ?_, hlast⟩, fun hgt => ⟨hz, by omega, .inr ⟨by omega, ?_⟩, hb, hlast⟩⟩
  · rcases hl with ⟨h1, rfl, h3⟩ | ⟨h1, _⟩
    · unfold putL; rw [if_pos (by omega)]
    · omega
  · rcases hl with ⟨h1, rfl, h3⟩ | ⟨h1, _⟩
    · unfold putL; rw [if_pos (by omega), List.length_append, hl1]; omega
    · omega
  · rcases hl with ⟨h1, rfl, h3⟩ | ⟨h1, _⟩
    · rw [List.length_append, hl1]; omega
    · omega
  · unfold putL
    rcases hl with ⟨h1, rfl, h3⟩ | ⟨h1, h2⟩
    · rw [if_pos (by omega), List.length_append, hl1]; omega
    · rw [if_neg (by omega)]; exact h2
theorem inT_facts (k : Int) : (k = 0 ∧ inT k = true) ∨ (k = 1 ∧ inT k = true) ∨ ((k == 0) = false ∧ (k == 1) = false ∧ inT k = false) := by
  by_cases h0 : k = 0
  · exact .inl ⟨h0, by rw [h0]; rfl⟩
  · by_cases h1 : k = 1
    · exact .inr (.inl ⟨h1, by rw [h1]; rfl⟩)
    · exact .inr (.inr ⟨beq_eq_false_iff_ne.2 h0, beq_eq_false_iff_ne.2 h1, by unfold inT; exact decide_eq_false (by omega)⟩)
set_option maxRecDepth 100000 in
set_option maxHeartbeats 8000000 in
theorem rPrint (pp : Option Addr) (cp : Nat) (ts : List IT) (w : World) (hr : IRow w pp w.heap.size ts) (hl : ts.length ≤ 1048576) (hok : ∀ t ∈ ts, t.nm.size ≤ 1048576 ∧ t.vl.size ≤ 1048576) :
    Calls Tryz.prog 22 #[.slice pp ts.length cp] w fun e w' => e = .returned (.tuple #[.string (sOf (prZ ts 0 (-1) []).1), .int .i64 ((prZ ts 0 (-1) []).2.1 : Int), .int .i64 ((prZ ts 0 (-1) []).2.2 : Int)]) ∧ Below w.heap.size w w' := by
  go_enter Tryz.func22, Tryz.ntmps22
  go_wp2_with fail
  go_loopw [5, 6, 7, 14] (fun tg sz v i wr => ∃ (k SZ : Nat) (L Lp : List Nat) (last : Int), k ≤ ts.length ∧ i = .int .i64 k ∧ tg = .bool (inT last) ∧ sz = .int .i64 (SZ : Int) ∧ Buf wr w.heap.size v Lp ∧ Below w.heap.size w wr ∧ Hid (PG ts k SZ L Lp last)) (fun _ _ _ i _ => ts.length - (RowKit.intOf i).toNat)
  case atStart => exact ⟨0, 0, [], [], -1, Nat.zero_le _, rfl, rfl, rfl, Buf.nil _ _, Below.refl _ _, ⟨rfl, Nat.le_refl _, .inl ⟨by decide, rfl, rfl⟩, by decide, .inl ⟨rfl, rfl⟩⟩⟩
  case round =>
    obtain ⟨k, SZ, L, Lp, last, hk, rfl, rfl, rfl, hBf, hB, hP⟩ := hrel
    by_cases hlt : k < ts.length
    · have hlt2 : (k : Int) < (ts.length : Int) := by omega
      obtain ⟨t, htg⟩ : ∃ t, ts[k]? = some t := ⟨ts[k], List.getElem?_eq_getElem hlt⟩
      obtain ⟨g, o, rfl, hg, q0, q1, q2, q3⟩ := (hr.below hB).c k t htg
      obtain ⟨hn, hv⟩ := hok t (List.mem_of_getElem? htg)
      have hb2 := bel1 wr (.cells #[.int .i64 t.k, .string t.nm, .string t.vl, .int .i64 t.p] 39)
      have hs2 := hB.size
      have hgr : g < wr.heap.size := Nat.lt_of_lt_of_le hg hs2
      have hrel2 : (k = 0 ∧ last = -1) ∨ (0 < k ∧ (wr.alloc (.cells #[.int .i64 t.k, .string t.nm, .string t.vl, .int .i64 t.p] 39)).cell? ⟨g, o + (k - 1) * 4, none⟩ = some (.int .i64 last) ∧ 0 ≤ last ∧ last < 8) := by
        rcases hP.out.last with h | ⟨h0, t', ht', rfl, h2⟩
        · exact .inl h
        · obtain ⟨g2, o2, e2, hg2, c0, _⟩ := (hr.below hB).c (k - 1) t' ht'
          cases e2
          exact .inr ⟨h0, (hb2.cell (p := ⟨g, _, none⟩) hgr).trans c0, h2⟩
      have cW := rwrong t.k g o cp ts.length k t.nm t.vl t.p last _ (by omega) (by omega) hlt (by omega) (show g < (wr.alloc (.cells #[.int .i64 t.k, .string t.nm, .string t.vl, .int .i64 t.p] 39)).heap.size by rw [World.size_alloc]; omega)
        ((hb2.cell (p := ⟨g, _, none⟩) hgr).trans q0) ((hb2.cell (p := ⟨g, _, none⟩) hgr).trans q1) ((hb2.cell (p := ⟨g, _, none⟩) hgr).trans q2) ((hb2.cell (p := ⟨g, _, none⟩) hgr).trans q3) hrel2
      have hB2 : Hid (Below w.heap.size w (wr.alloc (.cells #[.int .i64 t.k, .string t.nm, .string t.vl, .int .i64 t.p] 39))) := hB.trans (hb2.mono hs2)
      have hTK := Hid.mk' (TK.of (heap_new wr (.cells #[.int .i64 t.k, .string t.nm, .string t.vl, .int .i64 t.p] 39)))
      have hBf2 := Hid.mk' (hBf.below hb2)
      have hPz := hP.out.z
      rw [drop_at htg] at hPz
      simp only [prZ] at hPz
      rw [show (⟨t.k, t.nm, t.vl, t.p⟩ : IT) = t from rfl] at cW
      clear hr hrel2
      by_cases h0 : putE last t = 0
      · have hnx := Hid.mk' (hP.out.next htg h0 hn hv)
        have hk8 : Hid (∃ m : Nat, t.k = (m : Int) ∧ m < 8) := by
          by_cases ho : t.k < 0 ∨ 8 ≤ t.k
          · have : putE last t = 40 := if_pos ho
            rw [this] at h0; cases h0
          · exact ⟨t.k.toNat, by omega, by omega⟩
        have cR := fun w => (fun (h : ∃ m : Nat, t.k = (m : Int) ∧ m < 8) => show Calls Tryz.prog 39 #[.agg #[.int .i64 t.k, .string t.nm, .string t.vl, .int .i64 t.p]] w fun e w' => e = .returned (.string (wrB t.k.toNat t.nm t.vl)) ∧ Below w.heap.size w w' from by
          obtain ⟨m, e, hm⟩ := h
          rw [e]
          exact rwritten m t.nm t.vl t.p w hm (by omega) (by omega)) hk8.out
        rw [h0] at cW
        have hws := wrB_size t.k.toNat t.nm t.vl
        have hszb := hP.out.sz
        have hlb := hP.out.b
        rw [if_pos h0] at hPz
        clear hPz
        generalize wrB t.k.toNat t.nm t.vl = X at *
        have hk1 : k * 16777216 ≤ 17592186044416 := by omega
        have hlen : Lp.length + X.size ≤ 140737488355328 := by omega
        by_cases hle : SZ + X.size ≤ 1048576
        · have hle2 : (SZ : Int) + (X.size : Int) ≤ 1048576 := by omega
          have hG := Hid.mk' (hnx.out.1 hle)
          clear hnx hle h0 htg
          obtain ⟨tk, tn, tv, tp⟩ := t
          simp only at *
          rcases inT_facts tk with ⟨rfl, hT⟩ | ⟨rfl, hT⟩ | ⟨f0, f1, hT⟩
          all_goals
            go_wp2_with (first
              | (go_at_call 38; refine cW.mono ?_; clear cW; rintro e w2 ⟨rfl, hb3⟩; replace hB2 := Hid.mk' (hB2.out.trans (hb3.mono hB2.out.size)); replace hTK := Hid.mk' (hTK.out.bel hb3); replace hBf2 := Hid.mk' (hBf2.out.below hb3); have u0 := hTK.out.c0; have u1 := hTK.out.c1; have u2 := hTK.out.c2; have u3 := hTK.out.c3)
              | (go_at_call 39; refine (cR _).mono ?_; clear cR; rintro e w4 ⟨rfl, hb4⟩; replace hB2 := Hid.mk' (hB2.out.trans (hb4.mono hB2.out.size)); obtain ⟨v3, w3, hrun, hbf3, hbel3⟩ := (hBf2.out.below hb4).str X hlen hB2.out.size)
              | (at_builtin; refine (wpList_append_ex (by rfl) _ _ _ _ (by rfl) _ _ (by rfl) (by rfl) (fun a b => a = v3 ∧ b = w3) ⟨v3, w3, hrun, rfl, rfl⟩ ?_); rintro _ _ ⟨rfl, rfl⟩))
            go_roundw
            case rel => exact ⟨k + 1, SZ + X.size, _, _, _, by omega, by go_num, by rw [hT], by go_num, hbf3, hB2.out.trans (hbel3.mono (Nat.le_refl _)), hG⟩
            case measure => simp [RowKit.intOf]; omega
        · have hle2 : ¬ (SZ : Int) + (X.size : Int) ≤ 1048576 := by omega
          have hG := Hid.mk' (hnx.out.2 hle)
          clear hnx hle h0 htg
          obtain ⟨tk, tn, tv, tp⟩ := t
          simp only at *
          rcases inT_facts tk with ⟨rfl, hT⟩ | ⟨rfl, hT⟩ | ⟨f0, f1, hT⟩
          all_goals
            go_wp2_with (first
              | (go_at_call 38; refine cW.mono ?_; clear cW; rintro e w2 ⟨rfl, hb3⟩; replace hB2 := Hid.mk' (hB2.out.trans (hb3.mono hB2.out.size)); replace hTK := Hid.mk' (hTK.out.bel hb3); replace hBf2 := Hid.mk' (hBf2.out.below hb3); have u0 := hTK.out.c0; have u1 := hTK.out.c1; have u2 := hTK.out.c2; have u3 := hTK.out.c3)
              | (go_at_call 39; refine (cR _).mono ?_; clear cR; rintro e w4 ⟨rfl, hb4⟩; replace hB2 := Hid.mk' (hB2.out.trans (hb4.mono hB2.out.size)); obtain ⟨v3, w3, hrun, hbf3, hbel3⟩ := (hBf2.out.below hb4).str X hlen hB2.out.size)
              | (at_builtin; refine (wpList_append_ex (by rfl) _ _ _ _ (by rfl) _ _ (by rfl) (by rfl) (fun a b => a = v3 ∧ b = w3) ⟨v3, w3, hrun, rfl, rfl⟩ ?_); rintro _ _ ⟨rfl, rfl⟩))
            go_roundw
            case rel => exact ⟨k + 1, SZ + X.size, _, _, _, by omega, by go_num, by rw [hT], by go_num, hBf2.out.below hb4, hB2.out, hG⟩
            case measure => simp [RowKit.intOf]; omega
      · rw [if_neg h0] at hPz
        have k1 : ((putE last t : Int) == 0) = false := beq_eq_false_iff_ne.2 (by omega)
        have k2 : ¬ (putE last t : Int) = 0 := by omega
        have hZ := Hid.mk' hPz
        clear hPz h0
        generalize putE last t = er at *
        go_wp2_with (go_at_call 38; refine cW.mono ?_; rintro e w2 ⟨rfl, hb3⟩)
        exact bodyPost_ret (v := .tuple #[.string ⟨#[]⟩, .int .i64 (er : Int), .int .i64 (k : Int)]) (by simp [results, Tryz.results22, go_sem]) rfl ⟨by rw [← hZ.out]; rfl, hB2.out.trans (hb3.mono hB2.out.size)⟩
    · obtain rfl : k = ts.length := by omega
      have hZ := hP.out.z
      rw [List.drop_length] at hZ
      rw [show prZ [] ts.length last L = if inT last = true then ([], 41, ts.length) else if 1048576 < L.length then ([], 45, ts.length) else (L, 0, 0) from rfl] at hZ
      have hcv := hBf.conv
      have hPl := hP.out.l
      have hlt2 : ¬ ((ts.length : Int) < ts.length) := by omega
      obtain ⟨pp2, cp2, rfl⟩ := hBf.shape
      cases hI : inT last
      · rw [hI, if_neg (by decide)] at hZ
        by_cases hL : 1048576 < SZ
        · have hL2 : (1048576 : Int) < (SZ : Int) := by omega
          rw [if_pos (by omega)] at hZ
          have hZ := Hid.mk' hZ
          go_wp2_with fail
          exact bodyPost_ret (v := .tuple #[.string ⟨#[]⟩, .int .i64 45, .int .i64 (ts.length : Int)]) (by simp [results, Tryz.results22, go_sem]) rfl ⟨by rw [← hZ.out]; rfl, hB⟩
        · have hL2 : ¬ (1048576 : Int) < (SZ : Int) := by omega
          rcases hPl with ⟨h1, rfl, h3⟩ | ⟨h1, _⟩
          · rw [if_neg (by omega)] at hZ
            have hZ := Hid.mk' hZ
            clear h3
            go_wp2_with fail
            exact bodyPost_ret (v := .tuple #[.string (sOf Lp), .int .i64 0, .int .i64 0]) (by simp [results, Tryz.results22, go_sem]) rfl ⟨by rw [← hZ.out]; rfl, hB⟩
          · exact absurd h1 hL
      · rw [hI, if_pos rfl] at hZ
        have hZ := Hid.mk' hZ
        go_wp2_with fail
        exact bodyPost_ret (v := .tuple #[.string ⟨#[]⟩, .int .i64 41, .int .i64 (ts.length : Int)]) (by simp [results, Tryz.results22, go_sem]) rfl ⟨by rw [← hZ.out]; rfl, hB⟩
end Go.Proofs.YtchfphakhmifmaaGreatDoor

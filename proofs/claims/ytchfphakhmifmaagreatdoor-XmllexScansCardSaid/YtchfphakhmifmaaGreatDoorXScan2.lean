/- The law XmllexScans. -/
import Derived.Test.YtchfphakhmifmaaGreatDoorXScan
namespace Go.Proofs.YtchfphakhmifmaaGreatDoor
open Go.ChangeShapes Go.WideShapes Go.ChangeAt Go.RowKit Go.Shelf Go.Lib
attribute [local go_sem] Oper.semAt_some

set_option maxRecDepth 100000 in
set_option maxHeartbeats 8000000 in
theorem Scans_in (s : ByteArray) (stop : Int) (w : World) (hE : Env w) (hS : ShpTab w) (h7 : 7 ≤ w.heap.size) (hs : s.size ≤ 9223372036854775807) (h1 : -9223372036854775808 ≤ stop) (h2 : stop ≤ 9223372036854775807) :
    CallsIn Fence.wide 9 Tryz.prog 5 #[.string s, .int .i64 stop] w fun e w' => e = .returned (.bool true) ∧ Below w.heap.size w w' := by
  have hbA : Below w.heap.size w ((w.alloc (.cells #[.int .i64 stop] 3)).alloc (.cells #[.bool false] 4)) := ((Below.refl _ w).alloc (Nat.le_refl _) _).alloc (by simp) _
  have cR := reads_any _ (hE.below hbA h7) (hS.below hbA h7) (by have := hbA.size; omega)
  refine callsIn_of_wp_marks Tryz.func5 rfl trivial ?_ rfl
  simp only [Tryz.ntmps5, List.size_toArray, List.length_cons, List.length_nil, Nat.reduceAdd, Nat.reduceSub, Array.replicate_succ, Array.replicate_zero, List.push_toArray, List.append_toArray, List.nil_append, List.cons_append]
  refine wpIn_wide.2 ?_
  go_upto_region 4 with (first
    | (go_at_call 17; refine cR.mono ?_; rintro e w1 ⟨rfl, hB1⟩)
    | (go_at_call 21; refine (Scan_any _ _).mono ?_; rintro e w2 ⟨rfl, rfl⟩))
  have hnil := fun w => sq_nil (.func 37) #[] #[.pointer (some ⟨w1.heap.size, 0, none⟩)] w
  go_wp2_with fail
  have hsz1 := hB1.size
  simp only [World.size_alloc] at hsz1
  have hX1 : w1.heap.size ≠ 0 := by omega
  generalize hW0 : ((w1.alloc (.cells #[.string s] 9)).alloc (.cells #[.func (.func 37) #[] #[.pointer (some ⟨w1.heap.size, 0, none⟩)]] 42)).alloc (.cells #[.slice none 0 0] 31) = W0
  have hz0 : W0.heap.size = w1.heap.size + 3 := by rw [← hW0]; simp
  have hBw0 : Below w1.heap.size w1 W0 := by rw [← hW0]; exact (((Below.refl _ w1).alloc (Nat.le_refl _) _).alloc (by simp) _).alloc (by simp; omega) _
  have e0 : W0.heap[w1.heap.size]? = some (.cells #[.string s] 9) := by
    rw [← hW0]
    exact ((bel1 _ _).block _ (by simp; omega)).trans (((bel1 _ _).block _ (by simp)).trans (hn2 w1 _))
  have e1 : W0.heap[w1.heap.size + 1]? = some (.cells #[.func (.func 37) #[] #[.pointer (some ⟨w1.heap.size, 0, none⟩)]] 42) := by
    rw [← hW0]
    have := hn2 (w1.alloc (.cells #[.string s] 9)) (.cells #[.func (.func 37) #[] #[.pointer (some ⟨w1.heap.size, 0, none⟩)]] 42)
    rw [World.size_alloc] at this
    exact ((bel1 _ _).block _ (by simp)).trans this
  have e2 : W0.heap[w1.heap.size + 1 + 1]? = some (.cells #[.slice none 0 0] 31) := by
    rw [← hW0]
    have := hn2 ((w1.alloc (.cells #[.string s] 9)).alloc (.cells #[.func (.func 37) #[] #[.pointer (some ⟨w1.heap.size, 0, none⟩)]] 42)) (.cells #[.slice none 0 0] 31)
    rwa [World.size_alloc, World.size_alloc] at this
  have d0 : W0.heap[w.heap.size]? = some (.cells #[.int .i64 stop] 3) := (hBw0.block _ (by omega)).trans ((hB1.block _ (by simp only [World.size_alloc]; omega)).trans (((bel1 _ _).block _ (by simp)).trans (hn2 w _)))
  have d1 : W0.heap[w.heap.size + 1]? = some (.cells #[.bool false] 4) := by
    refine (hBw0.block _ (by omega)).trans ((hB1.block _ (by simp)).trans ?_)
    have := hn2 (w.alloc (.cells #[.int .i64 stop] 3)) (.cells #[.bool false] 4)
    rwa [World.size_alloc] at this
  have hBW : Below w.heap.size w W0 := hbA.trans ((hB1.mono hbA.size).trans (hBw0.mono (by omega)))
  have hE0 : Env W0 := hE.below hBW h7
  clear hW0 hB1 cR hbA hnil hBw0
  have hlen := toksN_len s hs
  refine (wpIn_wide (n := 9)).1 ?_
  refine rangeR (gf := 37) (first := #[]) (lb := #[.pointer (some ⟨w1.heap.size, 0, none⟩)]) (R := W0.heap.size + 2) (toks := (toksN s).1) (Fl := fun _ => True) rfl ent_scan (by omega) (by omega) (by omega) rfl
    (fun fn tmps => scan_seq2 8 s w1.heap.size W0 _ _ (by simp only [World.cell?, e0]; rfl) hE0 (by omega) hs)
    (fun pre W => ∃ v, W.heap[w1.heap.size + 1 + 1]? = some (.cells #[v] 31) ∧ TRow W (W0.heap.size + 3) v pre ∧ Below (w1.heap.size + 2) W0 W)
    (fun _ _ _ => False) ?hI ?hIp (fun _ _ _ _ _ _ h => h.elim) (fun _ _ _ _ h _ _ _ => h) ⟨_, e2, World.ownsRow_nil _ _ _ 4, Below.refl _ _⟩
    (fun x b => { tmps := SA s stop w.heap.size w1.heap.size (.pointer (some ⟨b, 0, none⟩)) x.v, defers := [] }) ?assign ?body ?done ?stop
  case hI =>
    rintro pre W W' ⟨v, hv, hr, hb⟩ hbut
    have hl : w1.heap.size + 1 + 1 < W.heap.size := (Array.getElem?_eq_some_iff.1 hv).1
    exact ⟨v, (hbut.block _ hl (by omega)).trans hv, hr.but hbut (by omega), hb.trans (hbut.belowS (by omega) (by omega))⟩
  case hIp =>
    rintro pre W l o o' ⟨v, hv, hr, hb⟩ hle hl ho
    exact ⟨v, (World.putObj_heap_other (by omega)).trans hv, hr.put hl ho, hb.trans ⟨rfl, rfl, rfl, by simp [World.putObj], fun k hk => World.putObj_heap_other (by omega)⟩⟩
  case assign =>
    intro m l x W K hK
    simp only [Tok.v] at hK ⊢
    gi_wp2
    exact hK
  case body =>
    rintro m l pre x b W hle hlr hpx ⟨v, hv, hr, hb⟩ htk hbl hRb
    obtain ⟨i0, hi, hz0', hz1', hz2⟩ := info_parts infoT
    have hlT : w1.heap.size + 1 + 1 < W.heap.size := (Array.getElem?_eq_some_iff.1 hv).1
    have hcv : W.cell? ⟨w1.heap.size + 1 + 1, 0, none⟩ = some v := by simp only [World.cell?, hv]; rfl
    have hfv : W.frozen? ⟨w1.heap.size + 1 + 1, 0, none⟩ = false := by simp only [World.frozen?, hv]; simp
    have hTK := TK.of htk
    have q0 := hTK.c0
    have q1 := hTK.c1
    have q2 := hTK.c2
    have q3 := hTK.c3
    have hbW := hTK.lt
    have hpl : pre.length + 1 ≤ 1048576 := by have := hpx.length_le; rw [List.length_append] at this; simp at this; omega
    have hr1 := hr.below (bel1 W (tokO x))
    have hnews := TK.of (heap_new W (tokO x))
    have hcells : ∀ j u, (tokC x)[j]? = some u → (W.alloc (tokO x)).cell? ((⟨W.heap.size, 0, none⟩ : Addr).add j) = some u := by
      intro j u hu
      match j, hu with
      | 0, hu => cases hu; exact hnews.c0
      | 1, hu => cases hu; exact hnews.c1
      | 2, hu => cases hu; exact hnews.c2
      | 3, hu => cases hu; exact hnews.c3
      | j + 4, hu => cases hu
    have hone : ∀ u ∈ tokC x, u.oneCell' = true := by
      intro u hu
      simp only [tokC, List.mem_cons, List.not_mem_nil, or_false] at hu
      rcases hu with rfl | rfl | rfl | rfl <;> rfl
    have hrow : ∀ v, TRow W (W0.heap.size + 3) v pre → ∀ k, v.ownBlock = some k → W0.heap.size + 3 ≤ k := by
      intro v h k hk
      rcases h.2 with ⟨rfl, _⟩ | ⟨g, cap, cur, rfl, hb, _⟩
      · cases hk
      · cases hk; exact hb
    simp only [Tok.v]
    gi_wp2_with (gi_at_builtin; refine wpListIn_append_own _ rfl _ _ 31 rfl (W0.heap.size + 3) 39 i0 zTok 4 48 Tryz.underlying31 hi hz0' hz1' hz2 rfl (by decide) v pre.length (tokCells pre) rfl hr1 ⟨W.heap.size, 0, none⟩ 1 1 (tokC x) rfl rfl hcells hone (by simp only [maxLen]; omega) (by omega) (by rw [World.size_alloc]; omega) ?_; intro v' w2 hown' hgrow _; obtain ⟨g', cap', rfl⟩ := ownsRow_succ hown'; have hbe : Below (W0.heap.size + 3) W w2 := ((Below.refl _ W).alloc (by omega) (tokO x)).grown hgrow (by rw [World.size_alloc]; omega) (hrow v hr); have hv2 : w2.heap[w1.heap.size + 1 + 1]? = some (.cells #[v] 31) := (hbe.block _ (by omega)).trans hv; have hc2 : w2.cell? ⟨w1.heap.size + 1 + 1, 0, none⟩ = some v := (by simp only [World.cell?, hv2]; rfl); have hf2 : w2.frozen? ⟨w1.heap.size + 1 + 1, 0, none⟩ = false := (by simp only [World.frozen?, hv2]; simp))
    have hcl : ∀ (j : Nat) (o : Obj), v.ownBlock = some j → (W.alloc (tokO x)).heap[j]? = some o → o.isCells = true := by
      intro j o hj ho
      rcases hr1.2 with ⟨rfl, _⟩ | ⟨g, cap, cur, rfl, _, hg, _⟩
      · cases hj
      · cases hj; rw [hg] at ho; cases ho; rfl
    have hbe3 := (hbe.mono (show w1.heap.size + 1 + 1 ≤ W0.heap.size + 3 by omega)).setCell (p := ⟨w1.heap.size + 1 + 1, 0, none⟩) (Nat.le_refl _) (.slice (some ⟨g', 0, none⟩) (pre.length + 1) cap')
    have hbR : (w2.setCell ⟨w1.heap.size + 1 + 1, 0, none⟩ (.slice (some ⟨g', 0, none⟩) (pre.length + 1) cap')).heap[W0.heap.size + 2]? = W.heap[W0.heap.size + 2]? := (Below.heap_setCell w2 _ _ _ (show W0.heap.size + 2 ≠ w1.heap.size + 1 + 1 by omega)).trans (hbe.block _ (show W0.heap.size + 2 < W0.heap.size + 3 by omega))
    refine ⟨(((KeepsOthers.alloc W (tokO x)).trans (KeepsOthers.of_grownBy hgrow hcl)).trans (KeepsOthers.setCell _ _ _)).from _, ⟨hbR, hbe3.mono (by omega)⟩, _, set_box hv2 _, ?_, hb.trans (hbe3.mono (by omega))⟩
    have hown2 : TRow w2 (W0.heap.size + 3) (.slice (some ⟨g', 0, none⟩) (pre.length + 1) cap') (pre ++ [x]) := by
      unfold TRow tokCells
      rw [List.flatMap_append, List.length_append]
      simpa [tokCells] using hown'
    exact hown2.kept fun g cur hg hc => (Below.heap_setCell w2 _ _ _ (show g ≠ w1.heap.size + 1 + 1 by omega)).trans hc
  case stop =>
    rintro D c pre W _ _ h _
    exact h.elim
  case done =>
    rintro D W hD ⟨v, hv, hr, hb⟩ _ hK
    obtain ⟨pp, cp, rfl, -⟩ := hr.irow (Nat.le_refl _)
    have hzW := hb.size
    have hlX : w1.heap.size + 1 + 1 < W.heap.size := (Array.getElem?_eq_some_iff.1 hv).1
    have d0' := (hb.block _ (by omega)).trans d0
    have d1' := (hb.block _ (by omega)).trans d1
    have e0' := (hb.block _ (by omega)).trans e0
    have e1' := (hb.block _ (by omega)).trans e1
    have hEW : Env W := hE0.below hb (by omega)
    have hSW : ShpTab W := (hS.below hBW h7).below hb (by omega)
    have hBw : Below w.heap.size w W := hBW.trans (hb.mono (by omega))
    clear hb e2 e1 e0 d0 d1 hBW hE0 hE hS
    generalize hTk : (toksN s).1 = toks at *
    have hst := stopN_le stop toks.length
    have hc0 : W.cell? ⟨w.heap.size, 0, none⟩ = some (.int .i64 stop) := by simp only [World.cell?, d0']; rfl
    have hf0 : W.frozen? ⟨w.heap.size, 0, none⟩ = false := by simp only [World.frozen?, d0']; simp
    go_upto_if 36 with fail
    go_cut [3] from 36 to 39 (fun s3 wx => s3 = .pointer (some ⟨w.heap.size, 0, none⟩) ∧ Upd w.heap.size 3 (.int .i64 (stopA stop : Int)) W wx)
    case first =>
      by_cases hneg : stop < 0
      · have hA : Hid ((stopA stop : Int) = -(stop + 1)) := stopA_neg hneg
        have b1 : decide (stop < 0) = true := by simp [hneg]
        have HD : Hid (W.heap[w.heap.size]? = some (.cells #[.int .i64 stop] 3)) := d0'
        clear d0' d1' e0' e1' hr hv
        go_wp2_with fail
        go_meet
        case rel =>
          refine ⟨rfl, ?_⟩
          rw [hA.out]
          exact (Upd.refl HD.out).set
      · have hA : Hid ((stopA stop : Int) = stop) := stopA_pos hneg
        have b1 : decide (stop < 0) = false := by simp [hneg]
        have HD : Hid (W.heap[w.heap.size]? = some (.cells #[.int .i64 stop] 3)) := d0'
        clear d0' d1' e0' e1' hr hv
        go_wp2_with fail
        go_meet
        case rel =>
          refine ⟨rfl, ?_⟩
          rw [hA.out]
          exact Upd.refl HD.out
    obtain ⟨rfl, hU⟩ := hcut
    have hst := stopN_le stop toks.length
    have hsq := stopN_eq stop toks.length
    have hUc := hU.cell
    have hUf := hU.fz
    have hUa : wc.cell? ⟨w1.heap.size + 1 + 1, 0, none⟩ = some (.slice pp toks.length cp) := by simp only [World.cell?, hU.blk (by omega) hv]; rfl
    have hT1 : (toks.length : Int) + 1 ≠ 0 := by omega
    have hT2 : ((toks.length : Int) + 1 == 0) = false := by simp; omega
    go_upto_region 13 with fail
    have hUs : Upd w.heap.size 3 (.int .i64 (stopN stop toks.length : Int)) W (wc.setCell ⟨w.heap.size, 0, none⟩ (.int .i64 (stopN stop toks.length : Int))) := hU.set
    generalize wc.setCell ⟨w.heap.size, 0, none⟩ (.int .i64 (stopN stop toks.length : Int)) = WB at *
    have hzB : W.heap.size ≤ WB.heap.size := by rw [hUs.sz]; exact Nat.le_refl _
    have hbn : Below WB.heap.size WB (WB.alloc (.cells #[.int .i64 0] 3)) := bel1 _ _
    have hrB : TRow WB (W0.heap.size + 3) (.slice pp toks.length cp) toks := hr.kept fun g cur hg hc => hUs.blk (by omega) hc
    obtain ⟨pp2, cp2, he, hirB⟩ := hrB.irow (Nat.le_refl _)
    cases he
    have hEB : Env WB := hEW.below (hUs.but.belowS (B := w.heap.size) (Nat.le_refl _) (by omega)) h7
    have hSB : ShpTab WB := hSW.below (hUs.but.belowS (B := w.heap.size) (Nat.le_refl _) (by omega)) h7
    have hBB : Below w.heap.size w WB := hBw.trans (hUs.but.belowS (Nat.le_refl _) (by omega))
    have hSS0 : SS WB.heap.size w.heap.size w1.heap.size s (stopN stop toks.length) pp cp toks WB := by
      refine ⟨hUs.cell, hUs.blk (by omega) d1', ?_, ?_, ?_, hirB, hEB, h7, by omega, by omega⟩
      · simp only [World.cell?, hUs.blk (by omega) e0']; rfl
      · simp only [World.cell?, hUs.blk (by omega) e1']; rfl
      · simp only [World.cell?, hUs.blk (by omega) hv]; rfl
    have hKB : WB.heap[D]? = some (.deferred (some [])) := hUs.blk (by omega) hK
    have hSSn := hSS0.below hbn
    have hsqn := hSSn.sq
    have hNn : (WB.alloc (.cells #[.int .i64 0] 3)).heap[WB.heap.size]? = some (.cells #[.int .i64 0] 3) := hn2 _ _
    have hDn := (hbn.block D (Array.getElem?_eq_some_iff.1 hKB).1).trans hKB
    have hlD := (Array.getElem?_eq_some_iff.1 hKB).1
    clear hUa hUc hUf hU hc0 hf0 d0' d1' e0' e1' hv hrB hirB hr hK hEW hSW hBw
    go_wp2_with fail
    have hszn : (WB.alloc (.cells #[.int .i64 0] 3)).heap.size = WB.heap.size + 1 := by simp
    have hBn : Below w.heap.size w (WB.alloc (.cells #[.int .i64 0] 3)) := hBB.trans (hbn.mono (by omega))
    have hSn : ShpTab (WB.alloc (.cells #[.int .i64 0] 3)) := hSB.below hbn (by omega)
    generalize hWn : WB.alloc (.cells #[.int .i64 0] 3) = Wn at *
    clear hWn hbn hSS0 hKB hEB hSB hBB hUs
    generalize hst' : stopN stop toks.length = st at *
    generalize hN : WB.heap.size = N at *
    clear hN hsq hst' hsqn
    generalize ha0 : (Act.mk _ _) = a0
    have hstart : a0 = { tmps := SB s w.heap.size w1.heap.size N (a0.tmps.getD 9 undef) (a0.tmps.getD 46 undef) (fun k => a0.tmps.getD k undef), defers := [{ target := .collected D, args := #[] }] } := by rw [← ha0]; rfl
    obtain ⟨v9, v46, u, hu⟩ : ∃ v9 v46 u, a0 = { tmps := SB s w.heap.size w1.heap.size N v9 v46 u, defers := [{ target := .collected D, args := #[] }] } := ⟨_, _, _, hstart⟩
    clear hstart ha0
    subst hu
    have hSl := hSSn.lX
    have hSh := hSSn.lH
    refine (wpIn_wide (n := 9)).1 ?_
    refine rangeR (gf := 37) (first := #[]) (lb := #[.pointer (some ⟨w1.heap.size, 0, none⟩)]) (R := Wn.heap.size + 2) (toks := toks) (Fl := fun _ => True) rfl ent_scan (by omega) (by omega) (by omega) rfl
      (fun fn tmps => by rw [← hTk]; exact scan_seq2 8 s w1.heap.size Wn _ _ hSSn.tx hSSn.en (by omega) hs)
      (fun pre W => pre.length ≤ st ∧ W.heap[N]? = some (.cells #[.int .i64 (pre.length : Int)] 3) ∧ Below N Wn W)
      (fun c pre W => c = .exit 2 ∧ W.heap[N]? = some (.cells #[.int .i64 (st : Int)] 3) ∧ Below N Wn W) ?hI ?hIp ?hIx (fun _ _ _ _ h _ _ _ => h) ⟨Nat.zero_le _, hNn, Below.refl _ _⟩
      (fun x b => { tmps := SB s w.heap.size w1.heap.size N (.pointer (some ⟨b, 0, none⟩)) x.v u, defers := [] }) ?assign ?body ?done ?stop
    case hI =>
      rintro pre W W' ⟨h0, hv, hb⟩ hbut
      have hl : N < W.heap.size := (Array.getElem?_eq_some_iff.1 hv).1
      exact ⟨h0, (hbut.block _ hl (by omega)).trans hv, hb.trans (hbut.belowS (by omega) (by omega))⟩
    case hIp =>
      rintro pre W l o o' ⟨h0, hv, hb⟩ hle hl ho
      exact ⟨h0, (World.putObj_heap_other (by omega)).trans hv, hb.trans ⟨rfl, rfl, rfl, by simp [World.putObj], fun k hk => World.putObj_heap_other (by omega)⟩⟩
    case hIx =>
      rintro c pre W l o o' ⟨h0, hv, hb⟩ hle hl ho
      exact ⟨h0, (World.putObj_heap_other (by omega)).trans hv, hb.trans ⟨rfl, rfl, rfl, by simp [World.putObj], fun k hk => World.putObj_heap_other (by omega)⟩⟩
    case assign =>
      intro m l x W K hK
      simp only [Tok.v] at hK ⊢
      gi_wp2
      exact hK
    case body =>
      rintro m l pre x b W hle ⟨rl, hrl⟩ hpx ⟨hps, hv, hb⟩ htk hbl hRb
      have hSx := hSSn.below hb
      have hzx := hb.size
      have hcn : W.cell? ⟨N, 0, none⟩ = some (.int .i64 (pre.length : Int)) := by simp only [World.cell?, hv]; rfl
      have hfn : W.frozen? ⟨N, 0, none⟩ = false := by simp only [World.frozen?, hv]; simp
      have hsc := hSx.st
      have hal := hSx.al
      have hix : toks[pre.length]? = some x := by
        obtain ⟨t', rfl⟩ := hpx
        simp
      have hpl : pre.length < toks.length := (List.getElem?_eq_some_iff.1 hix).1
      obtain ⟨g, o, rfl, hg, r0, r1, r2, r3⟩ := hSx.ir.c pre.length x.it (by rw [List.getElem?_map, hix]; rfl)
      simp only [Tok.it] at r0 r1 r2 r3
      have hTK := TK.of htk
      have q0 := hTK.c0
      have q1 := hTK.c1
      have q2 := hTK.c2
      have q3 := hTK.c3
      have hl1 : (pre.length : Int) < (toks.length : Int) := by omega
      have b1 : decide ((toks.length : Int) ≤ (pre.length : Int)) = false := by simp; omega
      have b2 : ¬ ((toks.length : Int) ≤ (pre.length : Int)) := by omega
      have b1n : decide (toks.length ≤ pre.length) = false := by simp; omega
      have b2n : ¬ toks.length ≤ pre.length := by omega
      clear hSSn hNn hDn hBn hSn
      by_cases hst1 : pre.length = st
      · have b3 : ((pre.length : Int) == (st : Int)) = true := by simp; omega
        gi_wp2_with fail
        exact ⟨KeepsFrom.refl _ _, rfl, by rw [← hst1]; exact hv, hb⟩
      · have b3 : ((pre.length : Int) == (st : Int)) = false := by simp; omega
        by_cases hhalf : pre.length = st / 2
        · have b5 : ((pre.length : Int) == (st : Int) / 2) = true := by rw [beq_iff_eq]; omega
          clear hhalf
          have hsq0 := hSx.sq
          have hbW : b < W.heap.size := hTK.lt
          have hlx : (pre ++ [x]).length = pre.length + 1 := by simp
          gi_wp2_with fail
          refine wpIn_region_quiet_round (by kernel_rfl) (by kernel_rfl) (by kernel_rfl) ?_
          repeat (gi_big_quiet_step (fail))
          refine wpQuietIn_nil ?_
          intro _ hw'
          obtain ⟨nq, hw''⟩ := hw'
          subst hw''
          have hbk : Below W.heap.size W ((W.drewN nq).alloc (.cells #[.int .i64 0] 3)) := (bdN (Below.refl _ W) nq).alloc (Nat.le_refl _) _
          have hSk := hSx.below (hbk.mono (by omega))
          have hsqk := hSk.sq
          have hK0 : ((W.drewN nq).alloc (.cells #[.int .i64 0] 3)).heap[W.heap.size]? = some (.cells #[.int .i64 0] 3) := hn2 (W.drewN nq) _
          have hkc : ((W.drewN nq).alloc (.cells #[.int .i64 0] 3)).cell? ⟨W.heap.size, 0, none⟩ = some (.int .i64 0) := by simp only [World.cell?, hK0]; rfl
          have hkf : ((W.drewN nq).alloc (.cells #[.int .i64 0] 3)).frozen? ⟨W.heap.size, 0, none⟩ = false := by simp only [World.frozen?, hK0]; simp
          have hks : ((W.drewN nq).alloc (.cells #[.int .i64 0] 3)).setCell ⟨W.heap.size, 0, none⟩ (.int .i64 0) = (W.drewN nq).alloc (.cells #[.int .i64 0] 3) := World.setCell_alloc_at (w := W.drewN nq) #[.int .i64 0] 3 W.heap.size 0 (.int .i64 0) rfl
          gi_wp2_with fail
          have hrlk : ((W.drewN nq).alloc (.cells #[.int .i64 0] 3)).heap[l]? = some (.loop rl) := (hbk.block l (Array.getElem?_eq_some_iff.1 hrl).1).trans hrl
          have hszk : ((W.drewN nq).alloc (.cells #[.int .i64 0] 3)).heap.size = W.heap.size + 1 := by simp
          generalize hWk : (W.drewN nq).alloc (.cells #[.int .i64 0] 3) = Wk at *
          clear hWk hks hkc hkf hsqk hsq0 q0 q1 q2 q3 r0 r1 r2 r3 hTK htk
          generalize ha1 : (Act.mk _ _) = a1
          have hst2 : a1 = { tmps := SC s w.heap.size w1.heap.size N W.heap.size (.pointer (some ⟨b, 0, none⟩)) x.v (a1.tmps.getD 11 undef) (a1.tmps.getD 67 undef) (fun k => a1.tmps.getD k undef), defers := [] } := by rw [← ha1]; rfl
          obtain ⟨v11, v67, u2, hu2⟩ : ∃ v11 v67 u2, a1 = { tmps := SC s w.heap.size w1.heap.size N W.heap.size (.pointer (some ⟨b, 0, none⟩)) x.v v11 v67 u2, defers := [] } := ⟨_, _, _, hst2⟩
          clear hst2 ha1
          subst hu2
          refine rangeRN (l₀ := l) (r₀ := rl) hrlk (gf := 37) (first := #[]) (lb := #[.pointer (some ⟨w1.heap.size, 0, none⟩)]) (R := Wk.heap.size + 1) (toks := toks) (Fl := fun _ => True) rfl ent_scan (by omega) (by omega) rfl
            (fun fn tmps => by rw [← hTk]; exact scan_seq1 (m - 1) s w1.heap.size Wk _ hSk.tx hSk.en (by omega) hs)
            (fun p2 Wy => Wy.heap[W.heap.size]? = some (.cells #[.int .i64 (p2.length : Int)] 3) ∧ Below W.heap.size Wk Wy)
            (fun _ _ _ => False) ?hI2 ?hIp2 (fun _ _ _ _ _ _ h => h.elim) (fun _ _ _ _ h _ _ _ => h) ⟨hK0, Below.refl _ _⟩
            (fun y b2 => { tmps := SC s w.heap.size w1.heap.size N W.heap.size (.pointer (some ⟨b, 0, none⟩)) x.v (.pointer (some ⟨b2, 0, none⟩)) y.v u2, defers := [] }) ?assign2 ?body2 ?done2 ?stop2
          case hI2 =>
            rintro p2 Wy Wz ⟨hv2, hb2⟩ hbut
            have hl : W.heap.size < Wy.heap.size := (Array.getElem?_eq_some_iff.1 hv2).1
            exact ⟨(hbut.block _ hl (by omega)).trans hv2, hb2.trans (hbut.belowS (by omega) (by omega))⟩
          case hIp2 =>
            rintro p2 Wy l2 o2 o' ⟨hv2, hb2⟩ hle2 hl2 ho2
            exact ⟨(World.putObj_heap_other (by omega)).trans hv2, hb2.trans ⟨rfl, rfl, rfl, by simp [World.putObj], fun k hk => World.putObj_heap_other (by omega)⟩⟩
          case assign2 =>
            intro m2 l2 y Wy K hK
            simp only [Tok.v] at hK ⊢
            gi_wp2
            exact hK
          case body2 =>
            rintro m2 l2 p2 y b2' Wy hle2 ⟨rl2, hrl2⟩ hpy ⟨hv2, hb2⟩ htk2 hbl2 hRb2
            have hSy := hSk.below (hb2.mono (by omega))
            have hck : Wy.cell? ⟨W.heap.size, 0, none⟩ = some (.int .i64 (p2.length : Int)) := by simp only [World.cell?, hv2]; rfl
            have hfk : Wy.frozen? ⟨W.heap.size, 0, none⟩ = false := by simp only [World.frozen?, hv2]; simp
            have hal2 := hSy.al
            have hiy : toks[p2.length]? = some y := by
              obtain ⟨t', rfl⟩ := hpy
              simp
            have hyl : p2.length < toks.length := (List.getElem?_eq_some_iff.1 hiy).1
            obtain ⟨g2, o2, he2, hg2, s0, s1, s2, s3⟩ := hSy.ir.c p2.length y.it (by rw [List.getElem?_map, hiy]; rfl)
            cases he2
            simp only [Tok.it] at s0 s1 s2 s3
            have hTK2 := TK.of htk2
            have p0 := hTK2.c0
            have p1 := hTK2.c1
            have p2' := hTK2.c2
            have p3 := hTK2.c3
            have hyl1 : (p2.length : Int) < (toks.length : Int) := by omega
            have c1n : decide (toks.length ≤ p2.length) = false := by simp; omega
            have c2n : ¬ toks.length ≤ p2.length := by omega
            have hly : (p2 ++ [y]).length = p2.length + 1 := by simp
            clear hal hcn hfn hsc hv hb hSx hSk
            gi_wp2_with fail
            simp only [SC]
            refine wpIn_region_quiet_round (by kernel_rfl) (by kernel_rfl) (by kernel_rfl) ?_
            repeat (gi_big_quiet_step (fail))
            refine wpQuietIn_nil ?_
            intro _ hw'
            obtain ⟨nq2, hw''⟩ := hw'
            subst hw''
            gi_wp2_with fail
            exact ⟨kf_set _ _, kr_set (by omega) (by omega), by rw [hly]; exact set_box (W := Wy.drewN nq2) hv2 _, (bdN hb2 nq2).setCell (p := ⟨W.heap.size, 0, none⟩) (Nat.le_refl _) _⟩
          case done2 =>
            rintro Wy ⟨hv2, hb2⟩ _
            have hWy : Below W.heap.size W Wy := hbk.trans hb2
            have hSy := hSx.below (hWy.mono (by omega))
            have hck : Wy.cell? ⟨W.heap.size, 0, none⟩ = some (.int .i64 (toks.length : Int)) := by simp only [World.cell?, hv2]; rfl
            have hal2 := hSy.al
            have hvy : Wy.heap[N]? = some (.cells #[.int .i64 (pre.length : Int)] 3) := (hWy.block N (by omega)).trans hv
            have hcy : Wy.cell? ⟨N, 0, none⟩ = some (.int .i64 (pre.length : Int)) := by simp only [World.cell?, hvy]; rfl
            have hfy : Wy.frozen? ⟨N, 0, none⟩ = false := by simp only [World.frozen?, hvy]; simp
            have d1 : ((toks.length : Int) == (toks.length : Int)) = true := by simp
            have hkf : KeepsFrom Wn.heap.size W Wy := kf_below hWy
            have hkr : KR (Wn.heap.size + 2) W Wy := ⟨hWy.block _ (by omega), hWy.mono (by omega)⟩
            have hbN : Below N Wn Wy := hb.trans (hWy.mono (by omega))
            gi_wp2_with fail
            exact ⟨hkf.trans ((KeepsOthers.setCell _ _ _).from _), hkr.trans (kr_set (nq := 0) (W := Wy) (by omega) (by omega)), by rw [hlx]; omega, by rw [hlx]; exact set_box hvy _, hbN.setCell (p := ⟨N, 0, none⟩) (Nat.le_refl _) _⟩
          case stop2 =>
            rintro c p2 Wy _ h
            exact h.elim
        · have b5 : ((pre.length : Int) == (st : Int) / 2) = false := by rw [beq_eq_false_iff_ne]; omega
          have hlx : (pre ++ [x]).length = pre.length + 1 := by simp
          gi_wp2_with fail
          refine wpIn_region_quiet_round (by kernel_rfl) (by kernel_rfl) (by kernel_rfl) ?_
          repeat (gi_big_quiet_step (fail))
          refine wpQuietIn_nil ?_
          intro _ hw'
          obtain ⟨nq, hw''⟩ := hw'
          subst hw''
          gi_wp2_with fail
          exact ⟨kf_set _ _, kr_set (by omega) (by omega), by rw [hlx]; omega, by rw [hlx]; exact set_box (W := W.drewN nq) hv _, (bdN hb nq).setCell (p := ⟨N, 0, none⟩) (Nat.le_refl _) _⟩
    case' done =>
      rintro D2 Wd hD2 ⟨hps, hv0, hb⟩ _ hK2
      have hv : Wd.heap[N]? = some (.cells #[.int .i64 (st : Int)] 3) := by rw [show st = toks.length by omega]; exact hv0
      clear hv0 hps
    case' stop =>
      rintro D2 c pre Wd hD2 hpre ⟨rfl, hv, hb⟩ hK2
      clear hpre
      refine wpIn_wide.2 ?_
    all_goals
      have hSd := hSSn.below hb
      have hSh2 : ShpTab Wd := hSn.below hb (by omega)
      have hzd := hb.size
      have hBd : Below w.heap.size w Wd := hBn.trans (hb.mono (by omega))
      have hDd : Wd.heap[D]? = some (.deferred (some [])) := (hb.block D (by omega)).trans hDn
      have hMk : MarksOk w1.heap.size [{ target := .collected D2, args := #[] }, { target := .collected D, args := #[] }] Wd :=
        ⟨D2, rfl, by omega, hK2, (fun d' hd' => by obtain rfl := List.mem_singleton.1 hd'; intro e; injection e with e; omega), D, rfl, by omega, hDd, (fun _ h => by cases h), trivial⟩
      clear hSSn hSn hBn hDn hNn hb hK2 hDd
      cases hz : (toksN s).2 with
      | none =>
        have cT := fun w hE h7 => tokens_ok s w hE h7 hs hz
        rw [hTk] at cT
        have hEd := hSd.en
        have cT1 := cT Wd hEd (by omega)
        go_upto_region 31 with (first
          | (go_at_call 19; clear hEd; refine cT1.mono ?_; rintro e w3 ⟨p1, c1, rfl, hr1, hB3⟩; have hE3 := hSd.en.below hB3 (by omega); have hz3 := hB3.size; have cT2 := cT w3 hE3 (by omega))
          | (go_at_call 19; clear hE3; refine cT2.mono ?_; rintro e w4 ⟨p2, c2, rfl, hr2, hB4⟩))
        have hO1 : w4.ownsRow Wd.heap.size 39 4 (.slice p1 toks.length c1) toks.length (tokCells toks) := hr1.below hB4
        have hl1 := fun k h => (World.ownsRow.lt hr1 k h)
        have hl2 := fun k h => (World.ownsRow.lt hr2 k h)
        clear cT1 cT2 hr1
        obtain ⟨i0, hi, hz0', hz1', hz2⟩ := info_parts infoT
        go_wp2_with fail
        go_loopw [102] (fun i wr => ∃ k : Nat, k ≤ toks.length ∧ i = .int .i64 k ∧ (∃ xs, wr.ownsRow Wd.heap.size 39 4 (.slice p1 toks.length c1) toks.length xs) ∧ w4.grownBy wr (Value.slice p1 toks.length c1).ownBlock) (fun i _ => toks.length - (RowKit.intOf i).toNat)
        case atStart => exact ⟨0, Nat.zero_le _, rfl, ⟨_, hO1⟩, ⟨rfl, rfl, rfl, Nat.le_refl _, fun _ _ _ => rfl⟩⟩
        case round =>
          obtain ⟨k, hk, rfl, ⟨xs, hxs⟩, hgr⟩ := hrel
          by_cases hlt : k < toks.length
          · have hlt2 : (k : Int) < toks.length := by omega
            obtain ⟨g1, cap1, he, _, _⟩ := hxs.form (by omega)
            injection he with he1 he2 he3
            subst he1
            have hcl := World.ownsRow.cells hxs (g := g1) rfl (k * 4 + 1)
            have hxl : k * 4 + 1 < xs.length := by rw [hxs.1]; omega
            have hcc := hcl _ (List.getElem?_eq_getElem hxl)
            have had : (⟨g1, 0, none⟩ : Addr).add (k * 4 + 1) = ⟨g1, k * 4 + 1, none⟩ := by unfold Addr.add; split <;> simp_all
            rw [had] at hcc
            have hff : wr.frozen? ⟨g1, k * 4 + 1, none⟩ = false := by
              rcases hxs.2 with ⟨e, _⟩ | ⟨g', cap', cur, e, _, hg', _⟩
              · cases e
              · cases e; simp only [World.frozen?, hg']; simp
            generalize xs[k * 4 + 1] = old at hcc
            obtain ⟨ys, hys⟩ := own_set hxs (k * 4 + 1) (.string ⟨#[109, 97, 114, 107]⟩)
            have hgr' := gr_set (o := k * 4 + 1) hgr (.string ⟨#[109, 97, 114, 107]⟩)
            clear hcl had
            go_wp2_with fail
            exact ⟨⟨k + 1, by omega, by go_num, ⟨ys, hys⟩, hgr'⟩, by simp [RowKit.intOf]; omega⟩
          · obtain rfl : k = toks.length := by omega
            have hr1' : ∀ k, (Value.slice p1 toks.length c1).ownBlock = some k → Wd.heap.size ≤ k := fun k h => (hl1 k h).1
            have hz4 := hB4.size
            have hzr := hgr.size
            have hxs1 := World.ownsRow.alloc hxs (.cells #[.int .i64 0, .string ⟨#[]⟩, .string ⟨#[]⟩, .int .i64 0] 39)
            have hnw : ∀ j u, ([.int .i64 0, .string ⟨#[]⟩, .string ⟨#[]⟩, .int .i64 0] : List Value)[j]? = some u → (wr.alloc (.cells #[.int .i64 0, .string ⟨#[]⟩, .string ⟨#[]⟩, .int .i64 0] 39)).cell? ((⟨wr.heap.size, 0, none⟩ : Addr).add j) = some u := World.news_of_block (hn2 wr _)
            have hno : ∀ u ∈ ([.int .i64 0, .string ⟨#[]⟩, .string ⟨#[]⟩, .int .i64 0] : List Value), u.oneCell' = true := fun u hu => by
              simp only [List.mem_cons, List.not_mem_nil, or_false] at hu
              rcases hu with rfl | rfl | rfl | rfl <;> rfl
            have F1 : Hid (1 = 1) := rfl
            have hMk4 : Hid (MarksOk w1.heap.size [{ target := .collected D2, args := #[] }, { target := .collected D, args := #[] }] Wd) := hMk
            have hne : ∀ k, (Value.slice p2 toks.length c2).ownBlock = some k → (Value.slice p1 toks.length c1).ownBlock ≠ some k := fun k h2 h1 => by
              have a1 := hl1 k h1
              have a2 := hl2 k h2
              omega
            go_upto_region 37 with (at_builtin; clear F1; go_must (refine wpList_append_own _ rfl _ _ 31 rfl Wd.heap.size 39 i0 zTok 4 48 Tryz.underlying31 hi hz0' hz1' hz2 rfl (by decide) _ toks.length xs rfl hxs1 ⟨wr.heap.size, 0, none⟩ 1 1 [.int .i64 0, .string ⟨#[]⟩, .string ⟨#[]⟩, .int .i64 0] rfl rfl hnw hno (by simp only [maxLen]; omega) (by omega) (by rw [World.size_alloc]; omega) ?_); intro v5 w6 hown6 hgrow6 _; obtain ⟨g6, cap6, rfl⟩ := ownsRow_succ hown6)
            have hga : wr.grownBy (wr.alloc (.cells #[.int .i64 0, .string ⟨#[]⟩, .string ⟨#[]⟩, .int .i64 0] 39)) (Value.slice p1 toks.length c1).ownBlock := ⟨rfl, rfl, rfl, (by simp), fun k hk _ => Below.heap_alloc wr _ k hk⟩
            have hg46 : w4.grownBy w6 (Value.slice p1 toks.length c1).ownBlock := (hgr.trans hga).trans hgrow6
            have hz6 := hg46.size
            have hBd6 : Below Wd.heap.size Wd w6 := ((hB3.trans (hB4.mono hz3)).trans (Below.grown (Below.refl _ w4) hg46 (by omega) hr1'))
            have hS6 := hSd.below (hBd6.mono (by omega))
            have hr26 := hr2.grown hg46 (by
              cases hq : (Value.slice p2 toks.length c2).ownBlock with
              | none => exact .inl rfl
              | some kk => exact .inr fun e => hne kk hq e.symm)
            have cT3 := cT w6 hS6.en (by omega)
            go_upto_region 38 with (go_at_call 19; refine cT3.mono ?_; rintro e w7 ⟨p3, c3, rfl, hr3, hB7⟩)
            have hS7 := hS6.below (hB7.mono (by omega))
            have hz7 := hB7.size
            have hr27 := hr26.below hB7
            obtain ⟨p2', c2', he2, hi2⟩ := hr27.irow (Nat.le_refl _)
            cases he2
            obtain ⟨p3', c3', he3, hi3⟩ := hr3.irow (Nat.le_refl _)
            cases he3
            have cS1 := same_self p2 pp c2 cp toks w7 hi2 (hS7.ir.monoH (by omega)) (by omega)
            have hBd7 : Below Wd.heap.size Wd w7 := hBd6.trans (hB7.mono (by omega))
            have hM7 := hMk.below hBd7
            have hn7 : w7.heap[N]? = some (.cells #[.int .i64 (st : Int)] 3) := (hBd7.block N (by omega)).trans hv
            have g1 : w7.cell? ⟨N, 0, none⟩ = some (.int .i64 (st : Int)) := by simp only [World.cell?, hn7]; rfl
            have g2 := hS7.st
            have g3 := hS7.al
            have hrr := hS7.r
            have b1 : ((st : Int) == (st : Int)) = true := by simp
            have b4 : ((toks.length : Int) + 1 == (toks.length : Int) + 1) = true := by simp
            have F2 : Hid (1 = 1) := rfl
            clear hgr hxs hxs1 hgrow6 hown6 hg46 hr26 hr3 hO1 hne hnw hno
            go_wp2_with (first
              | (go_at_call 20; clear F2; go_must (refine cS1.mono ?_); rintro e w8 ⟨rfl, hB8⟩; have cS2 := same_self p2 p3 c2 c3 toks w8 ((hi2.below hB8).monoH hB8.size) ((hi3.below hB8).monoH hB8.size) (by omega); have hB78 : Below Wd.heap.size Wd w8 := hBd7.trans (hB8.mono (by omega)); have hS8 := hSd.below (hB78.mono (by omega)))
              | (go_at_call 20; go_must (refine cS2.mono ?_); rintro e w9 ⟨rfl, hB9⟩; have hz8 := hB8.size; have hBd9 : Below Wd.heap.size Wd w9 := hB78.trans (hB9.mono (by omega)); have hS9 := hSd.below (hBd9.mono (by omega)); have hr9 := hS9.r; have hr9c : w9.cell? ⟨w.heap.size + 1, 0, none⟩ = some (.bool false) := (by simp only [World.cell?, hr9]; rfl); have hr9f : w9.frozen? ⟨w.heap.size + 1, 0, none⟩ = false := (by simp only [World.frozen?, hr9]; simp)))
            have hM9 := hMk.below hBd9
            refine leaves_marks (n₀ := w1.heap.size) _ _ (hM9.set (by omega)) fun W' hb' => ?_
            have hcr : W'.cell? ⟨w.heap.size + 1, 0, none⟩ = some (.bool true) := (hb'.cell (p := ⟨w.heap.size + 1, 0, none⟩) (by show w.heap.size + 1 < w1.heap.size; omega)).trans (World.cell?_setCell_same' _ _ _ (by rw [hr9c]; rfl))
            refine ⟨.bool true, ?_, rfl, ((hBd.trans (Below.mono hBd9 (by omega))).setCell (p := ⟨w.heap.size + 1, 0, none⟩) (by show w.heap.size ≤ w.heap.size + 1; omega) _).trans (hb'.mono (by omega))⟩
            simp [results, Tryz.results5, go_sem, hcr]
      | some q =>
        obtain ⟨er, pq⟩ := q
        have hne := toksF_ne hz
        have cT := fun w hE h7 => tokens_no s w hE h7 hs er pq hz
        have hEd := hSd.en
        have cT1 := cT Wd hEd (by omega)
        have b2 : ((er : Int) == 0) = false := beq_eq_false_iff_ne.2 (by omega)
        have b3 : ((er : Int) != 0) = true := by simp [bne, b2]
        obtain ⟨i0, hi, hz0', hz1', hz2⟩ := info_parts infoT
        go_upto_region 31 with (first
          | (go_at_call 19; clear hEd; refine cT1.mono ?_; rintro e w3 ⟨rfl, hB3⟩; have hE3 := hSd.en.below hB3 (by omega); have hz3 := hB3.size; have cT2 := cT w3 hE3 (by omega))
          | (go_at_call 19; clear hE3; refine cT2.mono ?_; rintro e w4 ⟨rfl, hB4⟩))
        have hz4 := hB4.size
        have hBd4 : Below Wd.heap.size Wd w4 := hB3.trans (hB4.mono hz3)
        have hS4 := hSd.below (hBd4.mono (by omega))
        clear cT1 cT2 hB3 hB4
        go_wp2_with fail
        go_loopw [102] (fun i wr => i = .int .i64 0 ∧ wr = w4) (fun _ _ => 0)
        case atStart => exact ⟨rfl, rfl⟩
        case round =>
          obtain ⟨rfl, rfl⟩ := hrel
          have hxs1 := World.ownsRow_nil (wr.alloc (.cells #[.int .i64 0, .string ⟨#[]⟩, .string ⟨#[]⟩, .int .i64 0] 39)) Wd.heap.size 39 4
          have hnw : ∀ j u, ([.int .i64 0, .string ⟨#[]⟩, .string ⟨#[]⟩, .int .i64 0] : List Value)[j]? = some u → (wr.alloc (.cells #[.int .i64 0, .string ⟨#[]⟩, .string ⟨#[]⟩, .int .i64 0] 39)).cell? ((⟨wr.heap.size, 0, none⟩ : Addr).add j) = some u := World.news_of_block (hn2 wr _)
          have hno : ∀ u ∈ ([.int .i64 0, .string ⟨#[]⟩, .string ⟨#[]⟩, .int .i64 0] : List Value), u.oneCell' = true := fun u hu => by
            simp only [List.mem_cons, List.not_mem_nil, or_false] at hu
            rcases hu with rfl | rfl | rfl | rfl <;> rfl
          have F1 : Hid (1 = 1) := rfl
          go_upto_region 37 with (at_builtin; clear F1; go_must (refine wpList_append_own _ rfl _ _ 31 rfl Wd.heap.size 39 i0 zTok 4 48 Tryz.underlying31 hi hz0' hz1' hz2 rfl (by decide) (.slice none 0 0) 0 [] rfl hxs1 ⟨wr.heap.size, 0, none⟩ 1 1 [.int .i64 0, .string ⟨#[]⟩, .string ⟨#[]⟩, .int .i64 0] rfl rfl hnw hno (by decide) (by decide) (by rw [World.size_alloc]; omega) ?_); intro v5 w6 hown6 hgrow6 _; obtain ⟨g6, cap6, rfl⟩ := ownsRow_succ hown6)
          have hB46 : Below wr.heap.size wr w6 := ⟨hgrow6.os, hgrow6.tape, hgrow6.output, (by have := hgrow6.size; simp at this; omega), fun k hk => (hgrow6.block k (by simp; omega) (by simp [Value.ownBlock])).trans (Below.heap_alloc wr _ k hk)⟩
          have hz6 := hB46.size
          have hBd6 : Below Wd.heap.size Wd w6 := hBd4.trans (hB46.mono (by omega))
          have hS6 := hSd.below (hBd6.mono (by omega))
          have cT3 := cT w6 hS6.en (by omega)
          go_upto_region 38 with (go_at_call 19; refine cT3.mono ?_; rintro e w7 ⟨rfl, hB7⟩)
          have hz7 := hB7.size
          have hBd7 : Below Wd.heap.size Wd w7 := hBd6.trans (hB7.mono (by omega))
          have hS7 := hSd.below (hBd7.mono (by omega))
          have hn7 : w7.heap[N]? = some (.cells #[.int .i64 (st : Int)] 3) := (hBd7.block N (by omega)).trans hv
          have g1 : w7.cell? ⟨N, 0, none⟩ = some (.int .i64 (st : Int)) := by simp only [World.cell?, hn7]; rfl
          have g2 := hS7.st
          have b1 : ((st : Int) == (st : Int)) = true := by simp
          have cS := same_self none none 0 0 [] w7 ⟨fun i t h => by cases h⟩ ⟨fun i t h => by cases h⟩ (by decide)
          clear hown6 hgrow6 hnw hno
          go_wp2_with (go_at_call 20; go_must (refine cS.mono ?_); rintro e w9 ⟨rfl, hB9⟩; have hBd9 : Below Wd.heap.size Wd w9 := hBd7.trans (hB9.mono (by omega)); have hS9 := hSd.below (hBd9.mono (by omega)); have hr9 := hS9.r; have hr9c : w9.cell? ⟨w.heap.size + 1, 0, none⟩ = some (.bool false) := (by simp only [World.cell?, hr9]; rfl); have hr9f : w9.frozen? ⟨w.heap.size + 1, 0, none⟩ = false := (by simp only [World.frozen?, hr9]; simp))
          have hM9 := hMk.below hBd9
          refine leaves_marks (n₀ := w1.heap.size) _ _ (hM9.set (by omega)) fun W' hb' => ?_
          have hcr : W'.cell? ⟨w.heap.size + 1, 0, none⟩ = some (.bool true) := (hb'.cell (p := ⟨w.heap.size + 1, 0, none⟩) (by show w.heap.size + 1 < w1.heap.size; omega)).trans (World.cell?_setCell_same' _ _ _ (by rw [hr9c]; rfl))
          refine ⟨.bool true, ?_, rfl, ((hBd.trans (Below.mono hBd9 (by omega))).setCell (p := ⟨w.heap.size + 1, 0, none⟩) (by show w.heap.size ≤ w.heap.size + 1; omega) _).trans (hb'.mono (by omega))⟩
          simp [results, Tryz.results5, go_sem, hcr]
theorem Scans_any (s : ByteArray) (stop : Int) (w : World) (hE : Env w) (hS : ShpTab w) (h7 : 7 ≤ w.heap.size) (hs : s.size ≤ 9223372036854775807) (h1 : -9223372036854775808 ≤ stop) (h2 : stop ≤ 9223372036854775807) :
    Calls Tryz.prog 5 #[.string s, .int .i64 stop] w fun e w' => e = .returned (.bool true) ∧ Below w.heap.size w w' :=
  (callsIn_wide (n := 9)).1 (Scans_in s stop w hE hS h7 hs h1 h2)
end Go.Proofs.YtchfphakhmifmaaGreatDoor

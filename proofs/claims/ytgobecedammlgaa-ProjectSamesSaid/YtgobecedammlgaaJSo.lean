/- Are two forms the same: tokens. -/
import Derived.Test.YtgobecedammlgaaJLd
namespace Go.Proofs.Ytgobecedammlgaa
open Go.ChangeShapes Go.WideShapes Go.ChangeAt Go.RowKit

set_option maxRecDepth 20000 in
set_option maxHeartbeats 4000000 in
theorem sameToken_any (t u : Tk) (p1 p2 : Option Addr) (c1 c2 : Nat) (w : World) (h1 : URow w p1 w.heap.size t.cst) (h2 : URow w p2 w.heap.size u.cst) (hs : t.cst.length * 8 ≤ 140737488355328) : Calls Try.prog 10 #[tkV t p1 c1, tkV u p2 c2] w fun r w' => Ans r (t = u) ∧ Below w.heap.size w w' := by
  have cP := fun W => samePlace_any t u p1 p2 c1 c2 W
  have cV := fun W (HB : Below w.heap.size w W) => sameValues_any t u p1 p2 c1 c2 W ((h1.below HB).mono HB.size) ((h2.below HB).mono HB.size) hs
  clear h1 h2 hs
  replace cP : Hid _ := ⟨cP⟩
  replace cV : Hid _ := ⟨cV⟩
  have hA := tk_of (two_1 w (tkO t p1 c1) (tkO u p2 c2))
  have hC := tk_of (two_2 w (tkO t p1 c1) (tkO u p2 c2))
  have HB : Hid (Below w.heap.size w ((w.alloc (tkO t p1 c1)).alloc (tkO u p2 c2))) := ⟨two_b w _ _⟩
  have HS : Hid (w.heap.size + 1 < ((w.alloc (tkO t p1 c1)).alloc (tkO u p2 c2)).heap.size) := ⟨by simp⟩
  simp only [tkO, tkC] at hA hC HB HS
  generalize hW : (w.alloc (.cells [Value.int .i64 t.op, .string t.name, .int .i64 t.id, .int .i64 t.off, .int .i64 t.siz, .int .i64 t.since, .int .i64 t.prim, .int .i64 t.len, .int .i64 t.pres, .int .u64 t.nul, .int .u64 t.lo, .int .u64 t.hi, .slice p1 t.cst.length c1, .int .u64 t.val, .int .i64 t.blk, .int .i64 t.full, .int .i64 t.a.p, .int .i64 t.a.o, .int .i64 t.b.p, .int .i64 t.b.o, .int .i64 t.pair].toArray 38)).alloc _ = W at hA hC HB HS
  have a0 : W.cell? ⟨w.heap.size, 0, none⟩ = some (.int .i64 t.op) := hA.c0
  have a1 : W.cell? ⟨w.heap.size, 1, none⟩ = some (.string t.name) := hA.c1
  have a2 : W.cell? ⟨w.heap.size, 2, none⟩ = some (.int .i64 t.id) := hA.c2
  have a5 : W.cell? ⟨w.heap.size, 5, none⟩ = some (.int .i64 t.since) := hA.c5
  have a20 : W.cell? ⟨w.heap.size, 20, none⟩ = some (.int .i64 t.pair) := hA.c20
  have b0 : W.cell? ⟨w.heap.size + 1, 0, none⟩ = some (.int .i64 u.op) := hC.c0
  have b1 : W.cell? ⟨w.heap.size + 1, 1, none⟩ = some (.string u.name) := hC.c1
  have b2 : W.cell? ⟨w.heap.size + 1, 2, none⟩ = some (.int .i64 u.id) := hC.c2
  have b5 : W.cell? ⟨w.heap.size + 1, 5, none⟩ = some (.int .i64 u.since) := hC.c5
  have b20 : W.cell? ⟨w.heap.size + 1, 20, none⟩ = some (.int .i64 u.pair) := hC.c20
  have lA := hA.load
  have lC := hC.load
  have hA : Hid (TkC W w.heap.size 0 t p1 c1) := ⟨hA⟩
  have hC : Hid (TkC W (w.heap.size + 1) 0 u p2 c2) := ⟨hC⟩
  by_cases h0 : t.op = u.op
  · have z0 : (t.op == u.op) = true := beqT h0
    replace h0 : Hid (t.op = u.op) := ⟨h0⟩
    by_cases h1 : t.name = u.name
    · have z1 : (t.name.toList == u.name.toList) = true := by rw [h1]; exact beq_self_eq_true _
      replace h1 : Hid (t.name = u.name) := ⟨h1⟩
      by_cases h2 : t.id = u.id
      · have z2 : (t.id == u.id) = true := beqT h2
        replace h2 : Hid (t.id = u.id) := ⟨h2⟩
        by_cases h3 : t.since = u.since
        · have z3 : (t.since == u.since) = true := beqT h3
          replace h3 : Hid (t.since = u.since) := ⟨h3⟩
          by_cases h4 : t.pair = u.pair
          · have z4 : (t.pair == u.pair) = true := beqT h4
            replace h4 : Hid (t.pair = u.pair) := ⟨h4⟩
            go_enter Try.func10, Try.ntmps10
            go_wp2_with (first | (guard_target =~ wpList _ _ _ (Oper.mk _ (Op.load 38 _) _ _ _ _ :: _) _ _; go_must (first | refine wpList_ld 38 (.tmp 2) rfl rfl _ _ rfl lA ?_ | refine wpList_ld 38 (.tmp 3) rfl rfl _ _ rfl lC ?_ | refine wpList_skip rfl ?_); simp only [pts]) | (go_at_call 11; refine (cP.out W).mono ?_; rintro _ w1 ⟨⟨(_ | _), rfl, hbb⟩, hb1⟩ <;> (replace hbb : Hid _ := ⟨hbb⟩; clear lA lC; have lA := (hA.out.below (Nat.lt_of_succ_lt HS.out) hb1).load; have lC := (hC.out.below HS.out hb1).load; replace hb1 : Hid (Below W.heap.size W w1) := ⟨hb1⟩)) | (go_at_call 12; refine (cV.out w1 (HB.out.trans (hb1.out.mono HB.out.size))).mono ?_; rintro _ w2 ⟨⟨b2, rfl, hbb2⟩, hb2⟩; replace hbb2 : Hid _ := ⟨hbb2⟩; replace hb2 : Hid (Below w1.heap.size w1 w2) := ⟨hb2⟩))
            · go_ret
              exact ⟨Ans.no (fun e => absurd (hbb.out.2 (by rw [e]; exact ⟨rfl, rfl, rfl, rfl, rfl, rfl⟩)) (by decide)), HB.out.trans (hb1.out.mono HB.out.size)⟩
            · go_ret
              exact ⟨⟨b2, rfl, fun e => tk_ext h0.out h1.out h2.out h3.out h4.out (hbb.out.1 trivial) (hbb2.out.1 e), fun e => hbb2.out.2 (by rw [e]; exact ⟨rfl, rfl, rfl, rfl, rfl, rfl, rfl, rfl⟩)⟩, HB.out.trans ((hb1.out.trans (hb2.out.mono hb1.out.size)).mono HB.out.size)⟩
          · have z4 : (t.pair == u.pair) = false := beqF h4
            replace h4 : Hid (¬ t = u) := ⟨fun e => h4 (by rw [e])⟩
            go_enter Try.func10, Try.ntmps10
            go_wp2_with fail
            go_ret
            exact ⟨Ans.no h4.out, HB.out⟩
        · have z3 : (t.since == u.since) = false := beqF h3
          replace h3 : Hid (¬ t = u) := ⟨fun e => h3 (by rw [e])⟩
          go_enter Try.func10, Try.ntmps10
          go_wp2_with fail
          go_ret
          exact ⟨Ans.no h3.out, HB.out⟩
      · have z2 : (t.id == u.id) = false := beqF h2
        replace h2 : Hid (¬ t = u) := ⟨fun e => h2 (by rw [e])⟩
        go_enter Try.func10, Try.ntmps10
        go_wp2_with fail
        go_ret
        exact ⟨Ans.no h2.out, HB.out⟩
    · have z1 : (t.name.toList == u.name.toList) = false := beq_ba h1
      replace h1 : Hid (¬ t = u) := ⟨fun e => h1 (by rw [e])⟩
      go_enter Try.func10, Try.ntmps10
      go_wp2_with fail
      go_ret
      exact ⟨Ans.no h1.out, HB.out⟩
  · have z0 : (t.op == u.op) = false := beqF h0
    replace h0 : Hid (¬ t = u) := ⟨fun e => h0 (by rw [e])⟩
    go_enter Try.func10, Try.ntmps10
    go_wp2_with fail
    go_ret
    exact ⟨Ans.no h0.out, HB.out⟩
end Go.Proofs.Ytgobecedammlgaa

/- The contracts of appendHex, Hex, Unhex. -/
import Derived.Test.YthiilkmnbjgoaaaHex
import Derived.Deep.RegionHeld
import Derived.Deep.RegionLaw
namespace Go.Proofs.Ythiilkmnbjgoaaa
open Go.ChangeShapes Go.WideShapes Go.ChangeAt Go.RowKit

/-- An append whose run is known as something that there is. -/
theorem wpList_append_ex {P : Program} {w : World} {ops : Array Oper} {rest : List Oper} {o : Oper} {a : Act} {Q : Exit → Act → World → Prop} (hgd : o.guard = none) (s x : Operand) (t tx : TypeId)
    (ho : o.op = .call { callee := .builtin .append, args := #[s, x], argTypes := #[t, tx] }) (sv xv : Value) (hs : a.eval s = sv) (hx : a.eval x = xv) (Post : Value → World → Prop)
    (hrun : ∃ v w', (∀ ty, (Builtin.append_ #[t, tx] ty #[sv, xv]).run P w = .ok v w') ∧ Post v w')
    (h : ∀ v w', Post v w' → wpList P ops Q rest (a.put o.dst v) w') : wpList P ops Q (o :: rest) a w := by
  obtain ⟨v, w', hr, hp⟩ := hrun
  refine wpList_plain hgd fun _ hK => ?_
  unfold Oper.wp execOp
  simp only [ho, resolve, invoke, builtin, Sem.run_bind, Sem.run_pure, Result.andThen_ok, List.map_toArray, List.map_cons, List.map_nil, hs, hx, hr]
  exact hK _ _ (h v w' hp)
/-- The same at a step of a region that draws its order. -/
theorem step_append_ex {P : Program} {w : World} {ops : Array Oper} {o : Oper} {a : Act} {K : Act → World → Prop} {Q : Exit → Act → World → Prop} {E : Prop} (hgd : o.guard = none) (s x : Operand) (t tx : TypeId)
    (ho : o.op = .call { callee := .builtin .append, args := #[s, x], argTypes := #[t, tx] }) (sv xv : Value) (hs : a.eval s = sv) (hx : a.eval x = xv) (Post : Value → World → Prop)
    (hrun : ∃ v w', (∀ ty, (Builtin.append_ #[t, tx] ty #[sv, xv]).run P w = .ok v w') ∧ Post v w')
    (h : ∀ v w', Post v w' → K (a.put o.dst v) w') : if Region.wanted o (yielded ops a.tmps) = true then Oper.wp P o a w K Q else E := by
  have hw : Region.wanted o (yielded ops a.tmps) = true := by simp [Region.wanted, hgd]
  rw [if_pos hw]
  obtain ⟨v, w', hr, hp⟩ := hrun
  unfold Oper.wp execOp
  simp only [ho, resolve, invoke, builtin, Sem.run_bind, Sem.run_pure, Result.andThen_ok, List.map_toArray, List.map_cons, List.map_nil, hs, hx, hr]
  exact h v w' hp
theorem src_lit (W : World) (g n c : Nat) (M : List Nat) (hn : M.length = n) (hg : W.heap[g]? = some (.cells (M.map cU).toArray 5 (0, 0))) : Src Try.prog 1 22 (.slice (some ⟨g, 0, none⟩) n c) n (M.map cU) W :=
  Src.ofSlice W Try.underlying22 ⟨g, 0, none⟩ n c _ (by rw [List.length_map, hn, Nat.mul_one]) (World.news_of_block hg) (cU_one M)
/-- The small hex digit of a half byte. -/
def hexc (d : Nat) : Nat := if d < 10 then 48 + d else 87 + d
def smallS : ByteArray := ⟨#[48, 49, 50, 51, 52, 53, 54, 55, 56, 57, 97, 98, 99, 100, 101, 102]⟩
theorem small_ch : ∀ d, d < 16 → ch smallS d = hexc d := by decide
theorem u8_and15 (c : Nat) (h : c < 256) : bits .and .u8 (c : Int) 15 = ((c % 16 : Nat) : Int) := by
  rw [show (15 : Int) = ((15 : Nat) : Int) from rfl, u8_and_nat c 15 h (by decide)]
  congr 1
  exact Nat.and_two_pow_sub_one_eq_mod c 4
set_option maxHeartbeats 1000000 in
theorem appendHex_any (B : Nat) (v : Value) (L : List Nat) (c : Nat) (w : World) (hc : c < 256) (h : Buf w B v L) (hB : B ≤ w.heap.size) (hl : L.length + 2 ≤ 140737488355328) :
    Calls Try.prog 22 #[v, .int .u8 (c : Int)] w fun e w' => ∃ v', e = .returned v' ∧ Buf w' B v' (L ++ [hexc (c / 16), hexc (c % 16)]) ∧ Below B w w' := by
  have i1 : ∀ w : World, (Instr.index 9 (.string { data := #[48, 49, 50, 51, 52, 53, 54, 55, 56, 57, 97, 98, 99, 100, 101, 102] }) (.int .u8 ((c : Int) / 16))).run Try.prog w = .ok (.int .u8 (hexc (c / 16) : Nat)) w := fun w => by
    rw [← small_ch _ (by omega)]
    exact idx (w := w) smallS (c / 16) (by show c / 16 < 16; omega) .u8
  have i2 : ∀ w : World, (Instr.index 9 (.string { data := #[48, 49, 50, 51, 52, 53, 54, 55, 56, 57, 97, 98, 99, 100, 101, 102] }) (.int .u8 ((c : Int) % 16))).run Try.prog w = .ok (.int .u8 (hexc (c % 16) : Nat)) w := fun w => by
    rw [← small_ch _ (by omega)]
    exact idx (w := w) smallS (c % 16) (by show c % 16 < 16; omega) .u8
  have a15 := u8_and15 c hc
  obtain ⟨v', w', hrun, hbuf, hbel⟩ := Buf.append (w := (w.alloc (.cells #[.int .u8 (hexc (c / 16) : Nat), .int .u8 (hexc (c % 16) : Nat)] 5)).drew) (B := B) (v := v) (L := L) (tx := 22) (M := [hexc (c / 16), hexc (c % 16)])
    (h.below (bel1 w _).drew) (src_lit _ w.heap.size 2 2 _ rfl (heap_alloc_new w _)) hl (by simp; omega)
  have HB : Hid (Below B w w') := (((Below.refl B w).alloc hB _).drew).trans hbel
  clear h hbel
  go_enter Try.func22, Try.ntmps22
  go_wp2
  go_region_law ((refine step_append_ex (by rfl) _ _ _ _ (by rfl) _ _ (by rfl) (by rfl) (fun a b => a = v' ∧ b = w') ⟨v', w', hrun, rfl, rfl⟩ ?_; rintro _ _ ⟨rfl, rfl⟩))
  all_goals
    go_wp2_with fail
    go_ret
    exact ⟨_, rfl, hbuf, HB⟩
theorem make_buf (w : World) (c : Nat) (C : Int) (hC : C = (c : Int)) (hc : c ≤ 281474976710656) : ∃ w', (Instr.makeSlice 22 (.int .i64 0) (.int .i64 C)).run Try.prog w = .ok (.slice (some ⟨w.heap.size, 0, none⟩) 0 c) w' ∧
    Buf w' w.heap.size (.slice (some ⟨w.heap.size, 0, none⟩) 0 c) [] ∧ Below w.heap.size w w' := by
  obtain ⟨i, hi, hz, hsz, hby⟩ := info5
  obtain ⟨w', h1, h2, h3⟩ := run_make_own (P := Try.prog) w w.heap.size 22 5 i (.int .u8 0) 1 Try.underlying22 hi hz hsz .i64 .i64 c (by rw [hby]; omega) (by unfold maxLen; omega) (Nat.le_refl _)
  subst hC
  exact ⟨w', h1, h2, ⟨h3.os, h3.tape, h3.output, h3.size, fun k hk => h3.block k hk (by simp)⟩⟩
def hexL (l : List Nat) : List Nat := l.flatMap fun c => [hexc (c / 16), hexc (c % 16)]
theorem hexL_length (l : List Nat) : (hexL l).length = 2 * l.length := by
  unfold hexL
  induction l with
  | nil => rfl
  | cons a r ih => simp only [List.flatMap_cons, List.length_append, List.length_cons, List.length_nil, ih]; omega
theorem take_succ_ch (s : ByteArray) (i : Nat) (h : i < s.size) : (lOf s).take (i + 1) = (lOf s).take i ++ [ch s i] := by
  have h2 : i < (lOf s).length := by rw [lOf_length]; exact h
  rw [List.take_add_one, ch_lOf]
  simp [List.getD, h2]
theorem take_all (s : ByteArray) : (lOf s).take s.size = lOf s := by rw [← lOf_length]; exact List.take_length
set_option maxHeartbeats 1000000 in
theorem Hex_any (s : ByteArray) (w : World) (hs : s.size ≤ 35184372088832) : Calls Try.prog 12 #[.string s] w fun e w' => e = .returned (.string (sOf (hexL (lOf s)))) ∧ Below w.heap.size w w' := by
  obtain ⟨wm, hmk, hbm, hbel⟩ := make_buf w (2 * s.size) (2 * (s.size : Int)) (by simp) (by omega)
  go_enter Try.func12, Try.ntmps12
  go_wp2
  go_loopw [3, 11] (fun v i wr => ∃ k : Nat, k ≤ s.size ∧ i = .int .i64 k ∧ Buf wr w.heap.size v (hexL ((lOf s).take k)) ∧ Below w.heap.size w wr) (fun _ i _ => s.size - (intOf i).toNat)
  case atStart => exact ⟨0, Nat.zero_le _, rfl, hbm, hbel⟩
  case round =>
    rename Value => v
    obtain ⟨k, hk, rfl, hB, HB⟩ := hrel
    by_cases hlt : k < s.size
    · have ix : ∀ w : World, (Instr.index 9 (.string s) (.int .i64 (k : Int))).run Try.prog w = .ok (.int .u8 (ch s k : Int)) w := fun w => idx (w := w) s k hlt .i64
      have hlen : (hexL ((lOf s).take k)).length + 2 ≤ 140737488355328 := by rw [hexL_length, List.length_take, lOf_length]; omega
      go_wp2_with (go_at_call 22; refine (appendHex_any w.heap.size _ _ _ _ (ch_lt s k) hB HB.size hlen).mono ?_; rintro e w1 ⟨v1, rfl, hB1, hb1⟩)
      go_roundw
      case rel =>
        refine ⟨k + 1, by omega, by go_num, ?_, HB.trans hb1⟩
        rw [take_succ_ch s k hlt]
        unfold hexL
        rw [List.flatMap_append]
        exact hB1
      case measure => simp [intOf]; omega
    · obtain rfl : k = s.size := by omega
      have hcv := hB.conv
      rw [take_all] at hcv
      go_wp2
      go_ret
      exact ⟨rfl, HB⟩
end Go.Proofs.Ythiilkmnbjgoaaa

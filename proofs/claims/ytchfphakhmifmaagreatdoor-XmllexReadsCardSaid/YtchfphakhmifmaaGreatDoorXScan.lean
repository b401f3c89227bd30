/- The law XmllexScans: its frames; Scan. -/
import Derived.Test.YtchfphakhmifmaaGreatDoorMD
import Derived.Test.YtchfphakhmifmaaGreatDoorMC
import Derived.Sort.QuietIn
import Derived.Sort.CutIn
import Derived.Deep.CutBlock
import Derived.Deep.CutRange
import Derived.Laws.EntriesVeiled
namespace Go.Proofs.YtchfphakhmifmaaGreatDoor
open Go.ChangeShapes Go.WideShapes Go.ChangeAt Go.RowKit Go.Shelf Go.Lib
attribute [local go_sem] Oper.semAt_some

theorem Scan_any (s : ByteArray) (w : World) : Calls Tryz.prog 21 #[.string s] w fun e w' => e = .returned (.func (.func 37) #[] #[.pointer (some ⟨w.heap.size, 0, none⟩)]) ∧ w' = w.alloc (.cells #[.string s] 9) := by
  go_enter Tryz.func21, Tryz.ntmps21
  go_wp2_with fail
  go_ret
  exact ⟨rfl, rfl⟩
theorem sq_some (fuel : Nat) (fn : Fn) (a b : Array Value) (w : World) : (Op.equalIn (fuel + 1) 42 (.func fn a b) .nilFunc).run Tryz.prog w = .ok false w := by
  simp [Op.equalIn, run_underlying Tryz.underlying42]
theorem sq_nil (fn : Fn) (a b : Array Value) (w : World) : (binOp .eql 42 (.func fn a b) .nilFunc).run Tryz.prog w = .ok (.bool false) w := by
  simp only [binOp]
  simp [show Op.equal 42 (.func fn a b) .nilFunc = Op.equalIn (9999 + 1) 42 (.func fn a b) .nilFunc from rfl, sq_some 9999 fn a b w]
theorem ent_scan : ∀ ag w, (callFunc 37 ag).run Tryz.prog w = .ok (.enter 37 ag) w := enters_of Tryz.func37 (by kernel_rfl) rfl
theorem But.belowS {R B : Nat} {w w' : World} (h : But R w w') (hB : B ≤ R) (hB2 : B ≤ w.heap.size) : Below B w w' := ⟨h.os, h.tape, h.output, h.size, fun k hk => h.block k (by omega) (by omega)⟩
/-- The law's frames at its three loops over the pieces. -/
abbrev SA (s : ByteArray) (stop : Int) (H X : Nat) (v7 v30 : Value) : Array Value := #[.string s, .int .i64 stop, undef, .pointer (some ⟨H, 0, none⟩), .pointer (some ⟨H + 1, 0, none⟩), .pointer (some ⟨X + 1, 0, none⟩), .pointer (some ⟨X + 1 + 1, 0, none⟩), v7, undef, undef, undef, undef, undef, undef, undef, undef, undef, undef, undef, undef, undef, undef, undef, .bool true, .bool false, .string s, (.func (.func 37) #[] #[.pointer (some ⟨X, 0, none⟩)]), (.func (.func 37) #[] #[.pointer (some ⟨X, 0, none⟩)]), .bool false, (.func (.func 37) #[] #[.pointer (some ⟨X, 0, none⟩)]), v30, undef, undef, undef, undef, undef, undef, undef, undef, undef, undef, undef, undef, undef, undef, undef, undef, undef, undef, undef, undef, undef, undef, undef, undef, undef, undef, undef, undef, undef, undef, undef, undef, undef, undef, undef, undef, undef, undef, undef, undef, undef, undef, undef, undef, undef, undef, undef, undef, undef, undef, undef, undef, undef, undef, undef, undef, undef, undef, undef, undef, undef, undef, undef, undef, undef, undef, undef, undef, undef, undef, undef, undef, undef, undef, undef, undef, undef, undef, undef, undef, undef, undef, undef, undef, undef, undef, undef, undef, undef, undef, undef, undef, undef, undef, undef, undef, undef, undef, undef, undef, undef, undef, undef, undef, undef, undef, undef, undef, undef, undef, undef, undef, undef, undef]
abbrev SB (s : ByteArray) (H X N : Nat) (v9 v46 : Value) (u : Nat → Value) : Array Value := #[.string s, u 1, u 2, .pointer (some ⟨H, 0, none⟩), .pointer (some ⟨H + 1, 0, none⟩), .pointer (some ⟨X + 1, 0, none⟩), .pointer (some ⟨X + 1 + 1, 0, none⟩), u 7, .pointer (some ⟨N, 0, none⟩), v9, u 10, u 11, u 12, u 13, u 14, u 15, u 16, u 17, u 18, u 19, u 20, u 21, u 22, u 23, u 24, u 25, u 26, u 27, u 28, u 29, u 30, u 31, u 32, u 33, u 34, u 35, u 36, u 37, u 38, u 39, u 40, u 41, u 42, u 43, u 44, (.func (.func 37) #[] #[.pointer (some ⟨X, 0, none⟩)]), v46, u 47, u 48, u 49, u 50, u 51, u 52, u 53, u 54, u 55, u 56, u 57, u 58, u 59, u 60, u 61, u 62, u 63, u 64, u 65, u 66, u 67, u 68, u 69, u 70, u 71, u 72, u 73, u 74, u 75, u 76, u 77, u 78, u 79, u 80, u 81, u 82, u 83, u 84, u 85, u 86, u 87, u 88, u 89, u 90, u 91, u 92, u 93, u 94, u 95, u 96, u 97, u 98, u 99, u 100, u 101, u 102, u 103, u 104, u 105, u 106, u 107, u 108, u 109, u 110, u 111, u 112, u 113, u 114, u 115, u 116, u 117, u 118, u 119, u 120, u 121, u 122, u 123, u 124, u 125, u 126, u 127, u 128, u 129, u 130, u 131, u 132, u 133, u 134, u 135, u 136, u 137, u 138, u 139, u 140, u 141, u 142, u 143, u 144]
abbrev SC (s : ByteArray) (H X N K : Nat) (v9 v46 v11 v67 : Value) (u : Nat → Value) : Array Value := #[.string s, u 1, u 2, .pointer (some ⟨H, 0, none⟩), .pointer (some ⟨H + 1, 0, none⟩), .pointer (some ⟨X + 1, 0, none⟩), .pointer (some ⟨X + 1 + 1, 0, none⟩), u 7, .pointer (some ⟨N, 0, none⟩), v9, .pointer (some ⟨K, 0, none⟩), v11, u 12, u 13, u 14, u 15, u 16, u 17, u 18, u 19, u 20, u 21, u 22, u 23, u 24, u 25, u 26, u 27, u 28, u 29, u 30, u 31, u 32, u 33, u 34, u 35, u 36, u 37, u 38, u 39, u 40, u 41, u 42, u 43, u 44, (.func (.func 37) #[] #[.pointer (some ⟨X, 0, none⟩)]), v46, u 47, u 48, u 49, u 50, u 51, u 52, u 53, u 54, u 55, u 56, u 57, u 58, u 59, u 60, u 61, u 62, u 63, u 64, u 65, (.func (.func 37) #[] #[.pointer (some ⟨X, 0, none⟩)]), v67, u 68, u 69, u 70, u 71, u 72, u 73, u 74, u 75, u 76, u 77, u 78, u 79, u 80, u 81, u 82, u 83, u 84, u 85, u 86, u 87, u 88, u 89, u 90, u 91, u 92, u 93, u 94, u 95, u 96, u 97, u 98, u 99, u 100, u 101, u 102, u 103, u 104, u 105, u 106, u 107, u 108, u 109, u 110, u 111, u 112, u 113, u 114, u 115, u 116, u 117, u 118, u 119, u 120, u 121, u 122, u 123, u 124, u 125, u 126, u 127, u 128, u 129, u 130, u 131, u 132, u 133, u 134, u 135, u 136, u 137, u 138, u 139, u 140, u 141, u 142, u 143, u 144]
/-- What the loops read. -/
structure SS (n₀ H X : Nat) (s : ByteArray) (st : Nat) (pp : Option Addr) (cp : Nat) (toks : List Tok) (W : World) : Prop where
  st : W.cell? ⟨H, 0, none⟩ = some (.int .i64 (st : Int))
  r : W.heap[H + 1]? = some (.cells #[.bool false] 4)
  tx : W.cell? ⟨X, 0, none⟩ = some (.string s)
  sq : W.cell? ⟨X + 1, 0, none⟩ = some (.func (.func 37) #[] #[.pointer (some ⟨X, 0, none⟩)])
  al : W.cell? ⟨X + 1 + 1, 0, none⟩ = some (.slice pp toks.length cp)
  ir : IRow W pp n₀ (toks.map Tok.it)
  en : Env W
  l7 : 7 ≤ H
  lH : H + 1 < X
  lX : X + 2 < n₀
theorem SS.below {n₀ H X : Nat} {s : ByteArray} {st : Nat} {pp : Option Addr} {cp : Nat} {toks : List Tok} {W W' : World} (h : SS n₀ H X s st pp cp toks W) (hb : Below n₀ W W') : SS n₀ H X s st pp cp toks W' := by
  have l1 := h.l7
  have l2 := h.lH
  have l3 := h.lX
  exact ⟨(hb.cell (p := ⟨H, 0, none⟩) (by show H < n₀; omega)).trans h.st, (hb.block _ (by omega)).trans h.r, (hb.cell (p := ⟨X, 0, none⟩) (by show X < n₀; omega)).trans h.tx, (hb.cell (p := ⟨X + 1, 0, none⟩) (by show X + 1 < n₀; omega)).trans h.sq,
    (hb.cell (p := ⟨X + 1 + 1, 0, none⟩) (by show X + 1 + 1 < n₀; omega)).trans h.al, h.ir.below hb, h.en.below hb (by omega), l1, l2, l3⟩
theorem IRow.monoH {w : World} {pp : Option Addr} {H H' : Nat} {ts : List IT} (h : IRow w pp H ts) (hH : H ≤ H') : IRow w pp H' ts :=
  ⟨fun i t ht => by
    obtain ⟨g, o, e, hg, r⟩ := h.c i t ht
    exact ⟨g, o, e, Nat.lt_of_lt_of_le hg hH, r⟩⟩
theorem SS.mono {n₀ n₁ H X : Nat} {s : ByteArray} {st : Nat} {pp : Option Addr} {cp : Nat} {toks : List Tok} {W : World} (h : SS n₀ H X s st pp cp toks W) (hn : n₀ ≤ n₁) : SS n₁ H X s st pp cp toks W :=
  ⟨h.st, h.r, h.tx, h.sq, h.al, h.ir.monoH hn, h.en, h.l7, h.lH, by have := h.lX; omega⟩
theorem sameT_refl (a : IT) (q : Bool) : sameT a a q = true := by simp [sameT]
theorem sameL_refl : ∀ (l : List IT) (q : Bool), sameL l l q = true
  | [], _ => rfl
  | a :: r, q => by simp only [sameL]; rw [sameT_refl, sameL_refl r q]; rfl
/-- Where the law stops. -/
def stopA (stop : Int) : Nat := (if stop < 0 then -(stop + 1) else stop).toNat
def stopN (stop : Int) (T : Nat) : Nat := stopA stop % (T + 1)
theorem stopN_le (stop : Int) (T : Nat) : stopN stop T ≤ T := Nat.le_of_lt_succ (Nat.mod_lt _ (Nat.succ_pos T))
theorem stopN_eq (stop : Int) (T : Nat) : (stopA stop : Int) % ((T : Int) + 1) = (stopN stop T : Int) := by
  unfold stopN
  rw [Int.natCast_emod]
  rfl
theorem stopA_neg {stop : Int} (h : stop < 0) : (stopA stop : Int) = -(stop + 1) := by unfold stopA; rw [if_pos h]; omega
theorem stopA_pos {stop : Int} (h : ¬ stop < 0) : (stopA stop : Int) = stop := by unfold stopA; rw [if_neg h]; omega
/-- A world but for what one box holds. -/
structure Upd (H : Nat) (t : TypeId) (v : Value) (W W' : World) : Prop where
  but : But H W W'
  sz : W'.heap.size = W.heap.size
  bx : W'.heap[H]? = some (.cells #[v] t)
theorem Upd.refl {H : Nat} {t : TypeId} {v : Value} {W : World} (h : W.heap[H]? = some (.cells #[v] t)) : Upd H t v W W := ⟨But.refl _ _, rfl, h⟩
theorem Upd.set {H : Nat} {t : TypeId} {v u : Value} {W W' : World} (h : Upd H t v W W') : Upd H t u W (W'.setCell ⟨H, 0, none⟩ u) :=
  ⟨h.but.trans ⟨rfl, rfl, rfl, by simp [World.setCell], fun k _ hk => Below.heap_setCell _ _ _ _ hk⟩, by have := h.sz; simpa [World.setCell] using this, set_box h.bx _⟩
theorem Upd.cell {H : Nat} {t : TypeId} {v : Value} {W W' : World} (h : Upd H t v W W') : W'.cell? ⟨H, 0, none⟩ = some v := by simp only [World.cell?, h.bx]; rfl
theorem Upd.fz {H : Nat} {t : TypeId} {v : Value} {W W' : World} (h : Upd H t v W W') : W'.frozen? ⟨H, 0, none⟩ = false := by simp only [World.frozen?, h.bx]; simp
theorem Upd.blk {H k : Nat} {t : TypeId} {v : Value} {o : Obj} {W W' : World} (h : Upd H t v W W') (hk : k ≠ H) (ho : W.heap[k]? = some o) : W'.heap[k]? = some o := (h.but.block k (Array.getElem?_eq_some_iff.1 ho).1 hk).trans ho
theorem scan_seq2 (n : Nat) (s : ByteArray) (bx : Nat) (W : World) (o1 o2 : Obj) (hbx : W.cell? ⟨bx, 0, none⟩ = some (.string s)) (hE : Env W) (h7 : 7 ≤ W.heap.size) (hs : s.size ≤ 9223372036854775807) :
    SeqR n 37 #[] #[.pointer (some ⟨bx, 0, none⟩)] (W.heap.size + 2) (toksN s).1 (fun _ => True) ((W.alloc o1).alloc o2) := by
  have hlt := World.block_lt_of_cell? W ⟨bx, 0, none⟩ hbx
  have hb : Below W.heap.size W ((W.alloc o1).alloc o2) := (bel1 W o1).alloc (by simp) _
  have h := scan_seq n s bx ((W.alloc o1).alloc o2) ((hb.cell (p := ⟨bx, 0, none⟩) hlt).trans hbx) (hE.below hb h7) (by simp; omega) hs
  rw [World.size_alloc, World.size_alloc] at h
  exact h
theorem scan_seq1 (n : Nat) (s : ByteArray) (bx : Nat) (W : World) (o1 : Obj) (hbx : W.cell? ⟨bx, 0, none⟩ = some (.string s)) (hE : Env W) (h7 : 7 ≤ W.heap.size) (hs : s.size ≤ 9223372036854775807) :
    SeqR n 37 #[] #[.pointer (some ⟨bx, 0, none⟩)] (W.heap.size + 1) (toksN s).1 (fun _ => True) (W.alloc o1) := by
  have hlt := World.block_lt_of_cell? W ⟨bx, 0, none⟩ hbx
  have hb : Below W.heap.size W (W.alloc o1) := bel1 W o1
  have h := scan_seq n s bx (W.alloc o1) ((hb.cell (p := ⟨bx, 0, none⟩) hlt).trans hbx) (hE.below hb h7) (by simp; omega) hs
  rw [World.size_alloc] at h
  exact h
theorem kf_set {B nq : Nat} {W : World} (a : Addr) (v : Value) : KeepsFrom B W ((W.drewN nq).setCell a v) :=
  have h := (KeepsOthers.setCell (W.drewN nq) a v).from B
  ⟨h.size, h.same⟩
theorem kr_set {R N nq : Nat} {W : World} {v : Value} (hN : N ≠ R) (h7 : 7 ≤ N) : KR R W ((W.drewN nq).setCell ⟨N, 0, none⟩ v) :=
  ⟨Below.heap_setCell (W.drewN nq) _ _ _ hN.symm, (bdN (Below.refl 7 W) nq).setCell (p := ⟨N, 0, none⟩) h7 v⟩
theorem kf_below {B : Nat} {W W' : World} (h : Below W.heap.size W W') : KeepsFrom B W W' :=
  ⟨h.size, fun k _ _ hk _ => (h.block k (Array.getElem?_eq_some_iff.1 hk).1).trans hk⟩
theorem tokens_ok (s : ByteArray) (w : World) (hE : Env w) (h7 : 7 ≤ w.heap.size) (hs : s.size ≤ 9223372036854775807) (hz : (toksN s).2 = none) :
    Calls Tryz.prog 19 #[.string s] w fun e w' => ∃ pp cp, e = .returned (.tuple #[.slice pp (toksN s).1.length cp, .int .i64 0, .int .i64 0]) ∧ TRow w' w.heap.size (.slice pp (toksN s).1.length cp) (toksN s).1 ∧ Below w.heap.size w w' :=
  (Tokens_any s w hE h7 hs).mono fun e w' hq => by
    unfold TksPost at hq
    rw [hz] at hq
    obtain ⟨hb, v, rfl, hr⟩ := hq
    obtain ⟨pp, cp, rfl, _⟩ := hr.irow (Nat.le_refl _)
    exact ⟨pp, cp, rfl, hr, hb⟩
theorem tokens_no (s : ByteArray) (w : World) (hE : Env w) (h7 : 7 ≤ w.heap.size) (hs : s.size ≤ 9223372036854775807) (er p : Nat) (hz : (toksN s).2 = some (er, p)) :
    Calls Tryz.prog 19 #[.string s] w fun e w' => e = .returned (.tuple #[.slice none 0 0, .int .i64 (er : Int), .int .i64 (p : Int)]) ∧ Below w.heap.size w w' :=
  (Tokens_any s w hE h7 hs).mono fun e w' hq => by
    unfold TksPost at hq
    rw [hz] at hq
    exact ⟨hq.2, hq.1⟩
theorem same_self (pa pb : Option Addr) (ca cb : Nat) (toks : List Tok) (w : World) (ha : IRow w pa w.heap.size (toks.map Tok.it)) (hb : IRow w pb w.heap.size (toks.map Tok.it)) (hl : toks.length ≤ 281474976710656) :
    Calls Tryz.prog 20 #[.slice pa toks.length ca, .slice pb toks.length cb, .bool true] w fun e w' => e = .returned (.bool true) ∧ Below w.heap.size w w' := by
  have h := same_any pa pb ca cb w.heap.size w.heap.size (toks.map Tok.it) (toks.map Tok.it) true w ha hb (by rw [List.length_map]; exact hl)
  rw [List.length_map, sameL_refl] at h
  exact h
theorem hn2 (w : World) (o : Obj) : (w.alloc o).heap[w.heap.size]? = some o := heap_new w o
end Go.Proofs.YtchfphakhmifmaaGreatDoor

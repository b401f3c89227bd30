/- The law XmllexScans: its frames; Scan. -/
import Derived.Test.YtchfphakhmifmabGreatDoorMD
import Derived.Test.YtchfphakhmifmabGreatDoorMC
import Derived.Sort.QuietIn
import Derived.Sort.CutIn
import Derived.Deep.CutBlock
import Derived.Deep.CutRange
import Derived.Laws.EntriesVeiled
namespace Go.Proofs.YtchfphakhmifmabGreatDoor
open Go.ChangeShapes Go.WideShapes Go.ChangeAt Go.RowKit Go.Shelf Go.Lib
attribute [local go_sem] Oper.semAt_some

theorem But.belowS {R B : Nat} {w w' : World} (h : But R w w') (hB : B ≤ R) (hB2 : B ≤ w.heap.size) : Below B w w' := ⟨h.os, h.tape, h.output, h.size, fun k hk => h.block k (by omega) (by omega)⟩
theorem IRow.monoH {w : World} {pp : Option Addr} {H H' : Nat} {ts : List IT} (h : IRow w pp H ts) (hH : H ≤ H') : IRow w pp H' ts :=
  ⟨fun i t ht => by
    obtain ⟨g, o, e, hg, r⟩ := h.c i t ht
    exact ⟨g, o, e, Nat.lt_of_lt_of_le hg hH, r⟩⟩
theorem sameT_refl (a : IT) (q : Bool) : sameT a a q = true := by simp [sameT]
theorem sameL_refl : ∀ (l : List IT) (q : Bool), sameL l l q = true
  | [], _ => rfl
  | a :: r, q => by simp only [sameL]; rw [sameT_refl, sameL_refl r q]; rfl
/-- Where the law stops. -/
def stopA (stop : Int) : Nat := (if stop < 0 then -(stop + 1) else stop).toNat
def stopN (stop : Int) (T : Nat) : Nat := stopA stop % (T + 1)
theorem stopN_le (stop : Int) (T : Nat) : stopN stop T ≤ T := Nat.le_of_lt_succ (Nat.mod_lt _ (Nat.succ_pos T))
theorem stopN_eq (stop : Int) (T : Nat) : (stopA stop : Int) % ((T : Int) + 1) = (stopN stop T : Int) := by
  unfold stopN
  rw [Int.natCast_emod]
  rfl
theorem stopA_neg {stop : Int} (h : stop < 0) : (stopA stop : Int) = -(stop + 1) := by unfold stopA; rw [if_pos h]; omega
theorem stopA_pos {stop : Int} (h : ¬ stop < 0) : (stopA stop : Int) = stop := by unfold stopA; rw [if_neg h]; omega
/-- A world but for what one box holds. -/
structure Upd (H : Nat) (t : TypeId) (v : Value) (W W' : World) : Prop where
  but : But H W W'
  sz : W'.heap.size = W.heap.size
  bx : W'.heap[H]? = some (.cells #[v] t)
theorem Upd.refl {H : Nat} {t : TypeId} {v : Value} {W : World} (h : W.heap[H]? = some (.cells #[v] t)) : Upd H t v W W := ⟨But.refl _ _, rfl, h⟩
theorem Upd.set {H : Nat} {t : TypeId} {v u : Value} {W W' : World} (h : Upd H t v W W') : Upd H t u W (W'.setCell ⟨H, 0, none⟩ u) :=
  ⟨h.but.trans ⟨rfl, rfl, rfl, by simp [World.setCell], fun k _ hk => Below.heap_setCell _ _ _ _ hk⟩, by have := h.sz; simpa [World.setCell] using this, set_box h.bx _⟩
theorem Upd.cell {H : Nat} {t : TypeId} {v : Value} {W W' : World} (h : Upd H t v W W') : W'.cell? ⟨H, 0, none⟩ = some v := by simp only [World.cell?, h.bx]; rfl
theorem Upd.fz {H : Nat} {t : TypeId} {v : Value} {W W' : World} (h : Upd H t v W W') : W'.frozen? ⟨H, 0, none⟩ = false := by simp only [World.frozen?, h.bx]; simp
theorem Upd.blk {H k : Nat} {t : TypeId} {v : Value} {o : Obj} {W W' : World} (h : Upd H t v W W') (hk : k ≠ H) (ho : W.heap[k]? = some o) : W'.heap[k]? = some o := (h.but.block k (Array.getElem?_eq_some_iff.1 ho).1 hk).trans ho
theorem kf_set {B nq : Nat} {W : World} (a : Addr) (v : Value) : KeepsFrom B W ((W.drewN nq).setCell a v) :=
  have h := (KeepsOthers.setCell (W.drewN nq) a v).from B
  ⟨h.size, h.same⟩
theorem kr_set {R N nq : Nat} {W : World} {v : Value} (hN : N ≠ R) (h7 : 7 ≤ N) : KR R W ((W.drewN nq).setCell ⟨N, 0, none⟩ v) :=
  ⟨Below.heap_setCell (W.drewN nq) _ _ _ hN.symm, (bdN (Below.refl 7 W) nq).setCell (p := ⟨N, 0, none⟩) h7 v⟩
theorem kf_below {B : Nat} {W W' : World} (h : Below W.heap.size W W') : KeepsFrom B W W' :=
  ⟨h.size, fun k _ _ hk _ => (h.block k (Array.getElem?_eq_some_iff.1 hk).1).trans hk⟩
theorem tokens_ok (s : ByteArray) (w : World) (hE : Env w) (h7 : 7 ≤ w.heap.size) (hs : s.size ≤ 9223372036854775807) (hz : (toksN s).2 = none) :
    Calls Tryz.prog 25 #[.string s] w fun e w' => ∃ pp cp, e = .returned (.tuple #[.slice pp (toksN s).1.length cp, .int .i64 0, .int .i64 0]) ∧ TRow w' w.heap.size (.slice pp (toksN s).1.length cp) (toksN s).1 ∧ Below w.heap.size w w' :=
  (Tokens_any s w hE h7 hs).mono fun e w' hq => by
    unfold TksPost at hq
    rw [hz] at hq
    obtain ⟨hb, v, rfl, hr⟩ := hq
    obtain ⟨pp, cp, rfl, _⟩ := hr.irow (Nat.le_refl _)
    exact ⟨pp, cp, rfl, hr, hb⟩
theorem tokens_no (s : ByteArray) (w : World) (hE : Env w) (h7 : 7 ≤ w.heap.size) (hs : s.size ≤ 9223372036854775807) (er p : Nat) (hz : (toksN s).2 = some (er, p)) :
    Calls Tryz.prog 25 #[.string s] w fun e w' => e = .returned (.tuple #[.slice none 0 0, .int .i64 (er : Int), .int .i64 (p : Int)]) ∧ Below w.heap.size w w' :=
  (Tokens_any s w hE h7 hs).mono fun e w' hq => by
    unfold TksPost at hq
    rw [hz] at hq
    exact ⟨hq.2, hq.1⟩
theorem hn2 (w : World) (o : Obj) : (w.alloc o).heap[w.heap.size]? = some o := heap_new w o
end Go.Proofs.YtchfphakhmifmabGreatDoor

/- The law XmllexScans: its frames; Scan. -/
import Derived.Test.YtchfphakhmifmabGreatDoorMD
import Derived.Test.YtchfphakhmifmabGreatDoorMC
import Derived.Sort.QuietIn
import Derived.Sort.CutIn
import Derived.Deep.CutBlock
import Derived.Deep.CutRange
import Derived.Laws.EntriesVeiled
namespace Go.Proofs.YtchfphakhmifmabGreatDoor
open Go.ChangeShapes Go.WideShapes Go.ChangeAt Go.RowKit Go.Shelf Go.Lib
attribute [local go_sem] Oper.semAt_some

/-- A world but for what one box holds. -/
structure Upd (H : Nat) (t : TypeId) (v : Value) (W W' : World) : Prop where
  but : But H W W'
  sz : W'.heap.size = W.heap.size
  bx : W'.heap[H]? = some (.cells #[v] t)
theorem Upd.refl {H : Nat} {t : TypeId} {v : Value} {W : World} (h : W.heap[H]? = some (.cells #[v] t)) : Upd H t v W W := ⟨But.refl _ _, rfl, h⟩
theorem Upd.set {H : Nat} {t : TypeId} {v u : Value} {W W' : World} (h : Upd H t v W W') : Upd H t u W (W'.setCell ⟨H, 0, none⟩ u) :=
  ⟨h.but.trans ⟨rfl, rfl, rfl, by simp [World.setCell], fun k _ hk => Below.heap_setCell _ _ _ _ hk⟩, by have := h.sz; simpa [World.setCell] using this, set_box h.bx _⟩
theorem Upd.cell {H : Nat} {t : TypeId} {v : Value} {W W' : World} (h : Upd H t v W W') : W'.cell? ⟨H, 0, none⟩ = some v := by simp only [World.cell?, h.bx]; rfl
theorem Upd.fz {H : Nat} {t : TypeId} {v : Value} {W W' : World} (h : Upd H t v W W') : W'.frozen? ⟨H, 0, none⟩ = false := by simp only [World.frozen?, h.bx]; simp
theorem hn2 (w : World) (o : Obj) : (w.alloc o).heap[w.heap.size]? = some o := heap_new w o
end Go.Proofs.YtchfphakhmifmabGreatDoor

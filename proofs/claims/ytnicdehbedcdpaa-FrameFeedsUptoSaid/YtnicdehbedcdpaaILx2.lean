/- A region that draws its order, walked in an order that is told. -/
import Derived.Test.YtnicdehbedcdpaaILex
namespace Go.Proofs.Ytnicdehbedcdpaa
open Go.ChangeShapes Go.WideShapes Go.ChangeAt Go.RowKit

theorem pick_map (l : List Oper) : ∀ sc : List Nat, sc.all (fun i => decide (i < l.length)) = true → sc.map (fun i => l.toArray[i]?) = (sc.filterMap fun i => l[i]?).map some
  | [], _ => rfl
  | i :: r, h => by
    rw [List.all_cons, Bool.and_eq_true, decide_eq_true_eq] at h
    rw [List.map_cons, List.filterMap_cons, List.getElem?_eq_getElem h.1, pick_map l r h.2]
    simp [h.1]
theorem wp_region_pp {P : Program} {Q : Exit → Act → World → Prop} {id : Nat} {a : Act} {w : World} {l : List Oper} (p : World → Prop) (sc : List Nat) (hm : P.follows .mixedOrders = true) (hv : (Region.noSelect l.toArray && schB .any l.toArray sc (Array.replicate l.length false) && (sc.length == l.length) && sc.all (fun i => decide (i < l.length))) = true)
    (hQ : ∀ c (a : Act) d v w, Q (.panic c) (a.put d v) w → Q (.panic c) a w) (hp : p w.drew) (h : Lx P l.toArray (fun W => ∃ θ : CW p, W = θ.w) Q (sc.filterMap fun i => l[i]?) a w.drew) : (Code.region id l.toArray true).wp P Q a w := by
  rw [Bool.and_eq_true] at hv
  exact wp_region_px p sc _ (pick_map l sc hv.2) hm hv.1 hQ hp h
end Go.Proofs.Ytnicdehbedcdpaa

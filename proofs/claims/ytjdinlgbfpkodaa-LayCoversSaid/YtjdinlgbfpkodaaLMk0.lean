/- The law LayMakes: what was made, wherever the walk has come to. -/
import Derived.Test.YtjdinlgbfpkodaaLMkM
namespace Go.Proofs.Ytjdinlgbfpkodaa
open Go.ChangeShapes Go.WideShapes Go.ChangeAt Go.RowKit Go.Shelf

/-- What was made, wherever the walk has come to. -/
structure Env (w W : World) (L : List Rm) (A : List Int) (pL pA : Option Addr) : Prop where
  l : SlR W pL W.heap.size L
  a : SlZ W pA W.heap.size A
  b : Below w.heap.size w W
theorem Env.go {w W W' : World} {L : List Rm} {A : List Int} {pL pA : Option Addr} (h : Env w W L A pL pA) (hb : Below W.heap.size W W') : Env w W' L A pL pA := ⟨h.l.up hb, h.a.up hb, h.b.trans (hb.mono h.b.size)⟩
theorem Env.drewN {w W : World} {L : List Rm} {A : List Int} {pL pA : Option Addr} (h : Env w W L A pL pA) (n : Nat) : Env w (W.drewN n) L A pL pA := h.go (tdr (Below.refl _ W))
theorem SlR.go {W W' : World} {p : Option Addr} {L : List Rm} (h : SlR W p W.heap.size L) (hb : Below W.heap.size W W') : SlR W' p W'.heap.size L := h.up hb
end Go.Proofs.Ytjdinlgbfpkodaa

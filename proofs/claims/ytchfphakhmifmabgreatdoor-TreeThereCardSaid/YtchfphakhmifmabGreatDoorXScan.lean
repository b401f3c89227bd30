import Derived.Test.YtchfphakhmifmabGreatDoorMD
import Derived.Sort.CutIn
import Derived.Deep.CutBlock
namespace Go.Proofs.YtchfphakhmifmabGreatDoor
open Go.ChangeShapes Go.WideShapes Go.ChangeAt Go.RowKit Go.Shelf Go.Lib
attribute [local go_sem] Oper.semAt_some
theorem hn2 (w:World) (o:Obj):(w.alloc o).heap[w.heap.size]? = some o:=heap_new w o
end Go.Proofs.YtchfphakhmifmabGreatDoor

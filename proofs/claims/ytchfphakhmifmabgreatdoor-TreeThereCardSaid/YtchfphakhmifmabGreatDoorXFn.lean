import Derived.Test.YtchfphakhmifmabGreatDoorXPc
namespace Go.Proofs.YtchfphakhmifmabGreatDoor
open Go.ChangeShapes Go.WideShapes Go.ChangeAt Go.RowKit Go.Shelf Go.Lib
theorem eq_fn_nil (fuel:Nat) (w:World):(Op.equalIn (fuel + 1) 92 .nilFunc .nilFunc).run Tryz.prog w = .ok true w:=by
 simp [Op.equalIn,run_underlying Tryz.underlying92]
theorem eq_fn_some (fuel:Nat) (fn:Fn) (a b:Array Value) (w:World):(Op.equalIn (fuel + 1) 92 (.func fn a b) .nilFunc).run Tryz.prog w = .ok false w:=by
 simp [Op.equalIn,run_underlying Tryz.underlying92]
theorem neq_fn_nil (w:World):(binOp .neq 92 .nilFunc .nilFunc).run Tryz.prog w = .ok (.bool false) w:=by
 simp only [binOp]
 simp [show Op.equal 92 .nilFunc .nilFunc = Op.equalIn (9999 + 1) 92 .nilFunc .nilFunc from rfl,eq_fn_nil 9999 w]
theorem neq_fn_some (fn:Fn) (a b:Array Value) (w:World):(binOp .neq 92 (.func fn a b) .nilFunc).run Tryz.prog w = .ok (.bool true) w:=by
 simp only [binOp]
 simp [show Op.equal 92 (.func fn a b) .nilFunc = Op.equalIn (9999 + 1) 92 (.func fn a b) .nilFunc from rfl,eq_fn_some 9999 fn a b w]
end Go.Proofs.YtchfphakhmifmabGreatDoor

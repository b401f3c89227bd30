/- The law TreeParses. -/
import Derived.Test.YtchfphakhmifmabGreatDoorTQp
import Derived.Test.YtchfphakhmifmabGreatDoorTA4
namespace Go.Proofs.YtchfphakhmifmabGreatDoor
open Go.ChangeShapes Go.WideShapes Go.ChangeAt Go.RowKit Go.Shelf Go.Lib

theorem tnum_any (e : Int) (w : World) : Calls Tryz.prog 12 #[.int .i64 e] w fun r w' => r = .returned (.int .i64 e) ∧ w' = w := by
  go_enter Tryz.func12, Tryz.ntmps12
  go_wp2_with fail
  go_ret
  exact ⟨rfl, rfl⟩
set_option maxHeartbeats 4000000 in
theorem TreeParses_any (s : ByteArray) (w : World) (hE : Env w) (h7 : 7 ≤ w.heap.size) (hs : s.size ≤ 9223372036854775807) :
    Calls Tryz.prog 4 #[.string s] w fun e w' => e = .returned (.bool true) ∧ Below w.heap.size w w' := by
  have c1 := Parse_any s w hE h7 hs
  have c2 := fun W => refParse_any s W hs
  have hok := parseZ_ok s
  unfold ParseU at c1 c2
  generalize parseZ s = Z at *
  obtain ⟨es, er, at_⟩ := Z
  dsimp only at c1 c2 hok
  have b1 : ((er : Int) == (er : Int)) = true := by simp
  have b2 : ((at_ : Int) == (at_ : Int)) = true := by simp
  have cS := fun (W : World) pa pb ca cb (ha : ERow W pa W.heap.size es) (hb : ERow W pb W.heap.size es) => sameElems_eq pa pb ca cb es W ha hb (by omega) (fun e he => by have := hok.2 e he; omega)
  clear hok
  go_enter Tryz.func4, Tryz.ntmps4
  go_wp2_with (first
    | (go_at_call 10; refine c1.mono ?_; rintro _ w1 ⟨p1, q1, rfl, hb1, hr1⟩; have d2 := c2 w1)
    | (go_at_call 11; refine d2.mono ?_; rintro _ w2 ⟨p2, q2, rfl, hb2, hr2⟩; have d3 := cS w2 p1 p2 q1 q2 ((hr1.below hb2).mono hb2.size) hr2)
    | (go_at_call 12; refine (tnum_any _ _).mono ?_; rintro _ w' ⟨rfl, hw'⟩; replace hw' := hw'.symm; subst hw')
    | (go_at_call 13; refine d3.mono ?_; rintro _ w3 ⟨rfl, hb3⟩))
  go_ret
  exact ⟨rfl, hb1.trans ((hb2.mono hb1.size).trans (hb3.mono (Nat.le_trans hb1.size hb2.size)))⟩
end Go.Proofs.YtchfphakhmifmabGreatDoor

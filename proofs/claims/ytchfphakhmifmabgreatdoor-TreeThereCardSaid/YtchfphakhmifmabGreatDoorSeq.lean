import Derived.Test.YtchfphakhmifmabGreatDoorProg
import Derived.Test.YtchfphakhmifmabGreatDoorMath
import Derived.WalkSpells
import Derived.WalkLawsBesides
import Derived.ProofKit
import Derived.OpenShut
import Derived.Deep.RegionWith
import Derived.BigQuiet
namespace Go.Proofs.YtchfphakhmifmabGreatDoor
set_option maxRecDepth 1000000
set_option maxHeartbeats 16000000
open Go.ChangeShapes Go.WideShapes Go.ChangeAt Go.RowKit
theorem ret_bool {a b:Bool} (h:a = b):Ending.returned (.bool a) = .returned (.bool b):=by rw [h]
theorem bel1 (w:World) (o:Obj):Below w.heap.size w (w.alloc o):=(Below.refl _ _).alloc (Nat.le_refl _) _
theorem idx {w:World} (s:ByteArray) (i:Nat) (h:i < s.size) (k:IntKind):(Instr.index 9 (.string s) (.int k (i:Int))).run Tryz.prog w = .ok (.int .u8 (ch s i:Int)) w:=by
 rw [run_index_string w 9 s k i Tryz.underlying9,dif_pos ⟨by omega,by omega⟩]
 simp only [Int.toNat_natCast,ch_get]
abbrev rowV (a b c:Nat):Value:=.agg #[.int .i64 (a:Int),.int .u8 (b:Int),.int .u8 (c:Int)]
theorem isTail_any (c:Nat) (w:World):Calls Tryz.prog 138 #[.int .u8 (c:Int)] w fun e w'=>e = .returned (.bool (tailB c)) ∧ w' = w:=by
 unfold tailB
 by_cases h:128 ≤ c
 ·go_enter Tryz.func138,Tryz.ntmps138
  go_wp2
  go_ret
  exact ⟨ret_bool (by simp [h];omega),rfl⟩
 ·go_enter Tryz.func138,Tryz.ntmps138
  go_wp2
  go_ret
  exact ⟨ret_bool (by simp),rfl⟩
theorem row_eq (c a b d:Nat) (ha:a = rsz c) (hb:b = rlo c) (hd:d = rhi c):Ending.returned (rowV a b d) = .returned (rowV (rsz c) (rlo c) (rhi c)):=by rw [ha,hb,hd]
theorem rowOf_any (c:Nat) (w:World):Calls Tryz.prog 107 #[.int .u8 (c:Int)] w fun e w'=>e = .returned (rowV (rsz c) (rlo c) (rhi c)) ∧ Below w.heap.size w w':=by
 go_enter Tryz.func107,Tryz.ntmps107
 go_wp2
 ·rename_i h1
  exact bodyPost_ret (v:=rowV 1 0 0) (by simp [results,Tryz.results107,go_sem]) rfl ⟨row_eq c _ _ _ (by unfold rsz;(repeat' split) <;> omega) (by unfold rlo;(repeat' split) <;> omega) (by unfold rhi;(repeat' split) <;> omega),bel1 _ _⟩
 ·rename_i h1 h2
  exact bodyPost_ret (v:=rowV 0 0 0) (by simp [results,Tryz.results107,go_sem]) rfl ⟨row_eq c _ _ _ (by unfold rsz;(repeat' split) <;> omega) (by unfold rlo;(repeat' split) <;> omega) (by unfold rhi;(repeat' split) <;> omega),bel1 _ _⟩
 ·rename_i h1 h2 h3
  exact bodyPost_ret (v:=rowV 2 128 191) (by simp [results,Tryz.results107,go_sem]) rfl ⟨row_eq c _ _ _ (by unfold rsz;(repeat' split) <;> omega) (by unfold rlo;(repeat' split) <;> omega) (by unfold rhi;(repeat' split) <;> omega),bel1 _ _⟩
 ·rename_i h1 h2 h3 h4
  have e4:=eq_of_beq h4
  exact bodyPost_ret (v:=rowV 3 160 191) (by simp [results,Tryz.results107,go_sem]) rfl ⟨row_eq c _ _ _ (by unfold rsz;(repeat' split) <;> omega) (by unfold rlo;(repeat' split) <;> omega) (by unfold rhi;(repeat' split) <;> omega),bel1 _ _⟩
 ·rename_i h1 h2 h3 h4 h5
  have e4:=ne_of_beq_false h4
  have e5:=eq_of_beq h5
  exact bodyPost_ret (v:=rowV 3 128 159) (by simp [results,Tryz.results107,go_sem]) rfl ⟨row_eq c _ _ _ (by unfold rsz;(repeat' split) <;> omega) (by unfold rlo;(repeat' split) <;> omega) (by unfold rhi;(repeat' split) <;> omega),bel1 _ _⟩
 ·rename_i h1 h2 h3 h4 h5 h6
  have e4:=ne_of_beq_false h4
  have e5:=ne_of_beq_false h5
  exact bodyPost_ret (v:=rowV 3 128 191) (by simp [results,Tryz.results107,go_sem]) rfl ⟨row_eq c _ _ _ (by unfold rsz;(repeat' split) <;> omega) (by unfold rlo;(repeat' split) <;> omega) (by unfold rhi;(repeat' split) <;> omega),bel1 _ _⟩
 ·rename_i h1 h2 h3 h4 h5 h6 h7
  have e4:=ne_of_beq_false h4
  have e5:=ne_of_beq_false h5
  have e7:=eq_of_beq h7
  exact bodyPost_ret (v:=rowV 4 144 191) (by simp [results,Tryz.results107,go_sem]) rfl ⟨row_eq c _ _ _ (by unfold rsz;(repeat' split) <;> omega) (by unfold rlo;(repeat' split) <;> omega) (by unfold rhi;(repeat' split) <;> omega),bel1 _ _⟩
 ·rename_i h1 h2 h3 h4 h5 h6 h7 h8
  have e4:=ne_of_beq_false h4
  have e5:=ne_of_beq_false h5
  have e7:=ne_of_beq_false h7
  exact bodyPost_ret (v:=rowV 4 128 191) (by simp [results,Tryz.results107,go_sem]) rfl ⟨row_eq c _ _ _ (by unfold rsz;(repeat' split) <;> omega) (by unfold rlo;(repeat' split) <;> omega) (by unfold rhi;(repeat' split) <;> omega),bel1 _ _⟩
 ·rename_i h1 h2 h3 h4 h5 h6 h7 h8 h9
  have e4:=ne_of_beq_false h4
  have e5:=ne_of_beq_false h5
  have e7:=ne_of_beq_false h7
  have e9:=eq_of_beq h9
  exact bodyPost_ret (v:=rowV 4 128 143) (by simp [results,Tryz.results107,go_sem]) rfl ⟨row_eq c _ _ _ (by unfold rsz;(repeat' split) <;> omega) (by unfold rlo;(repeat' split) <;> omega) (by unfold rhi;(repeat' split) <;> omega),bel1 _ _⟩
 ·rename_i h1 h2 h3 h4 h5 h6 h7 h8 h9
  have e4:=ne_of_beq_false h4
  have e5:=ne_of_beq_false h5
  have e7:=ne_of_beq_false h7
  have e9:=ne_of_beq_false h9
  exact bodyPost_ret (v:=rowV 0 0 0) (by simp [results,Tryz.results107,go_sem]) rfl ⟨row_eq c _ _ _ (by unfold rsz;(repeat' split) <;> omega) (by unfold rlo;(repeat' split) <;> omega) (by unfold rhi;(repeat' split) <;> omega),bel1 _ _⟩
end Go.Proofs.YtchfphakhmifmabGreatDoor

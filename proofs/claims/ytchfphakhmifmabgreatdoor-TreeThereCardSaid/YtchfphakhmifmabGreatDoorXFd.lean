import Derived.Test.YtchfphakhmifmabGreatDoorXIx
namespace Go.Proofs.YtchfphakhmifmabGreatDoor
open Go.ChangeShapes Go.WideShapes Go.ChangeAt Go.RowKit Go.Shelf Go.Lib
abbrev UTFs:List UInt8:=[117,116,102,45,56]
def foldTo (c:Nat):Nat:=if c = 117 then 85 else if c = 85 then 117 else if c = 116 then 84 else if c = 84 then 116 else if c = 102 then 70 else if c = 70 then 102 else c
structure FoldTab (w:World):Prop where
 at_:∀ c,c < 128 → c ≠ 107 → c ≠ 115 → (c = 117 ∨ c = 85 ∨ c = 116 ∨ c = 84 ∨ c = 102 ∨ c = 70 ∨ c = 45 ∨ c = 56) → w.cell? ⟨4,c,none⟩ = some (.int .u16 (foldTo c:Int))
theorem DecodeRune_ascii (E:ByteArray) (c:Nat) (hE:0 < E.size) (hc:ch E 0 = c) (h:c < 128) (w:World):Calls Tryz.prog 155 #[.string E] w fun e w'=>e = .returned (.tuple #[.int .i32 (c:Int),.int .i64 1]) ∧ w' = w:=by
 have ix:∀ w:World,(Instr.index 9 (.string E) (.int .i64 0)).run Tryz.prog w = .ok (.int .u8 (c:Int)) w:=fun w=>by rw [← hc];exact idx (w:=w) E 0 hE .i64
 have hne:(E.toList == []) = false:=by
  rw [beq_eq_false_iff_ne];intro e;rw [ByteArray.toList_eq] at e;rw [← tl_len,e] at hE;exact absurd hE (by decide)
 have hemp:E.toList.isEmpty = false:=by rw [ByteArray.toList_eq] at hne ⊢;cases hl:E.data.toList with | nil=>rw [hl] at hne;exact absurd hne (by decide) | cons _ _=>rfl
 have h1:(c:Int) < 128:=by omega
 go_enter Tryz.func155,Tryz.ntmps155
 go_wp2
 exact bodyPost_ret (v:=.tuple #[.int .i32 (c:Int),.int .i64 1]) (by simp [results,Tryz.results155,go_sem]) rfl ⟨rfl,rfl⟩
theorem SimpleFold_ascii (c d:Nat) (h:c < 128) (hd:d < 65536) (w:World) (hcell:w.cell? ⟨4,c,none⟩ = some (.int .u16 (d:Int))):Calls Tryz.prog 180 #[.int .i32 (c:Int)] w fun e w'=>e = .returned (.int .i32 (d:Int)) ∧ w' = w:=by
 have h1:¬ (c:Int) < 0:=by omega
 have h2:¬ (1114111:Int) < (c:Int):=by omega
 have h3:(c:Int) < 128:=by omega
 go_enter Tryz.func180,Tryz.ntmps180
 go_wp2
 go_ret
 exact ⟨by simp [go_sem],rfl⟩
theorem foldTo_lt (c:Nat) (h:c < 128):foldTo c < 65536:=by
 unfold foldTo
 (repeat' split) <;> omega
abbrev FoldC (c:Nat):Prop:=c = 117 ∨ c = 85 ∨ c = 116 ∨ c = 84 ∨ c = 102 ∨ c = 70 ∨ c = 45 ∨ c = 56
theorem FoldTab.cell {w:World} (h:FoldTab w) (c:Nat) (hc:FoldC c):w.cell? ⟨4,c,none⟩ = some (.int .u16 (foldTo c:Int)):=h.at_ c (by unfold FoldC at hc;omega) (by unfold FoldC at hc;omega) (by unfold FoldC at hc;omega) hc
theorem FoldTab.below {w w':World} {B:Nat} (h:FoldTab w) (hb:Below B w w') (hB:4 < B):FoldTab w':=⟨fun c h1 h2 h3 h4=>(hb.cell (p:=⟨4,c,none⟩) hB).trans (h.at_ c h1 h2 h3 h4)⟩
theorem FoldTab.lt {w:World} (h:FoldTab w):4 < w.heap.size:=World.block_lt_of_cell? w ⟨4,45,none⟩ (h.cell 45 (by decide))
theorem SimpleFold_tab (c:Nat) (hc:FoldC c) (w:World) (h:FoldTab w):Calls Tryz.prog 180 #[.int .i32 (c:Int)] w fun e w'=>e = .returned (.int .i32 (foldTo c:Int)) ∧ w' = w:=by
 have h1:c < 128:=by unfold FoldC at hc;omega
 exact SimpleFold_ascii c (foldTo c) h1 (foldTo_lt c h1) w (h.cell c hc)
end Go.Proofs.YtchfphakhmifmabGreatDoor

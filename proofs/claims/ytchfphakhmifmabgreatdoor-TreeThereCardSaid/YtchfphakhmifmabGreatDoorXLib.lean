import Derived.Test.YtchfphakhmifmabGreatDoorXRd
import Derived.Shelf.Lay
import Derived.Shelf.Strings.SlTrimAscii
import Derived.Shelf.Strings.Cut
import Derived.Shelf.Strings.Prefix
import Derived.Shelf.Strings.Search3
import Derived.Shelf.Strings.Fold
import Derived.Shelf.Pu.Clone
namespace Go.Proofs
open Go.Shelf
shelf_lay Lays.n99 Nm 99 at Tryz as Tryz.lays99
shelf_lay Lays.n100 Nm 100 at Tryz as Tryz.lays100
shelf_lay Lays.n103 Nm 103 at Tryz as Tryz.lays103
shelf_lay Lays.n144 Nm 144 at Tryz as Tryz.lays144
shelf_lay Lays.n145 Nm 145 at Tryz as Tryz.lays145
shelf_lay Lays.n153 Nm 153 at Tryz as Tryz.lays153
shelf_lay Lays.n161 Nm 161 at Tryz as Tryz.lays161
shelf_lay Lays.n164 Nm 164 at Tryz as Tryz.lays164
shelf_lay LaysPu.n25 Mp 25 at Tryz as Tryz.laysPu25
end Go.Proofs
namespace Go.Proofs.YtchfphakhmifmabGreatDoor
open Go.ChangeShapes Go.WideShapes Go.ChangeAt Go.RowKit Go.Lib
abbrev BLs : List UInt8:=[9,10,13,32]
def bs (l : List UInt8) : ByteArray:=⟨l.toArray⟩
theorem bs_list (l : List UInt8) : (bs l).data.toList = l:=by simp [bs]
theorem bs_size (l : List UInt8) : (bs l).size = l.length:=by rw [← tl_len,bs_list]
theorem strTrimLeft (s : ByteArray) (w : World) :
  Calls Tryz.prog 144 #[.string s,.string ⟨#[9,10,13,32]⟩] w fun e w'=>e = .returned (.string (bs (Lib.trimLeftS s.data.toList BLs))) ∧ Below w.heap.size w w' :=
 Any.strings_TrimLeft_laid Tryz.lays161 (by kernel_rfl) s ⟨#[9,10,13,32]⟩ w (by decide) (ascii_of_all (by decide))
theorem strHasPrefix (s p : ByteArray) (w : World) :
 Calls Tryz.prog 86 #[.string s,.string p] w fun e w'=>e = .returned (.bool (Lib.hasPrefix s.data.toList p.data.toList)) ∧ w' = w:=Any.strings_HasPrefix Tryz.lays99 s p w
theorem liteHasPrefix (s p : ByteArray) (w : World) :
 Calls Tryz.prog 109 #[.string s,.string p] w fun e w'=>e = .returned (.bool (Lib.hasPrefix s.data.toList p.data.toList)) ∧ w' = w:=Any.stringslite_HasPrefix { Tryz.lays99 with } s p w
theorem strHasSuffix (s p : ByteArray) (w : World) (hs : s.size ≤ 9223372036854775807) :
 Calls Tryz.prog 135 #[.string s,.string p] w fun e w'=>e = .returned (.bool (Lib.hasSuffix s.data.toList p.data.toList)) ∧ w' = w:=Any.strings_HasSuffix Tryz.lays100 s p w hs
theorem strContains (s p : ByteArray) (m : Int) (w : World) (hs : s.size < 4294967281) (hm : w.cell? ⟨3,0,none⟩ = some (.int .i64 m)) :
 Calls Tryz.prog 134 #[.string s,.string p] w fun e w'=>e = .returned (.bool (Lib.contains s.data.toList p.data.toList)) ∧ w' = w:=Any.strings_Contains Tryz.lays144 s p m w hs hm
theorem strCut (s p : ByteArray) (m : Int) (w : World) (hs : s.size < 4294967281) (hm : w.cell? ⟨3,0,none⟩ = some (.int .i64 m)) :
 Calls Tryz.prog 151 #[.string s,.string p] w fun e w'=>e = .returned (.tuple #[.string (bs (Lib.cut s.data.toList p.data.toList).1),.string (bs (Lib.cut s.data.toList p.data.toList).2.1),.bool (Lib.cut s.data.toList p.data.toList).2.2]) ∧ ∃ n,w' = w.drewN n:=Any.strings_Cut Tryz.lays145 s p m w hs hm
theorem strClone0 (s : ByteArray) (w : World) (hs : s.size ≤ 281474976710656) : Calls Tryz.prog 145 #[.string s] w fun e w'=>e = .returned (.string s) ∧ Below w.heap.size w w' :=
 AnyPu.stringslite_Clone Tryz.laysPu25 s w hs
theorem strClone (s : ByteArray) (w : World) (hs : s.size ≤ 281474976710656) : Calls Tryz.prog 112 #[.string s] w fun e w'=>e = .returned (.string s) ∧ Below w.heap.size w w':=by
 have hcon:=fun w=>strClone0 s w hs
 go_enter Tryz.func112,Tryz.ntmps112
 go_wp2_with (go_at_call 145;refine (hcon _).mono ?_;rintro e w' ⟨rfl,hB⟩)
 go_ret
 exact ⟨rfl,hB⟩
end Go.Proofs.YtchfphakhmifmabGreatDoor

import Derived.Test.YtchfphakhmifmabGreatDoorXFold
import Derived.Test.YtchfphakhmifmabGreatDoorMB
namespace Go.Proofs.YtchfphakhmifmabGreatDoor
set_option maxRecDepth 1000000
set_option maxHeartbeats 16000000
open Go.ChangeShapes Go.WideShapes Go.ChangeAt Go.RowKit Go.Shelf Go.Lib
abbrev E0:ByteArray:=⟨#[]⟩
def tlB (s:ByteArray):ByteArray:=bs (Lib.trimLeftS s.data.toList BLs)
def cpB (s p:ByteArray):ByteArray × Bool:=if Lib.hasPrefix s.data.toList p.data.toList then (s.extract p.size s.size,true) else (s,false)
def qtR (u:ByteArray) (k:Nat):ByteArray × ByteArray × Bool:=(u.extract 0 k,(if k < u.size then u.extract (k + 1) u.size else E0),decide (k < u.size))
def qtB (s:ByteArray):ByteArray × ByteArray × Bool :=
 if 0 < s.size ∧ (ch s 0 = 34 ∨ ch s 0 = 39) then qtR (s.extract 1 s.size) (fstN (s.extract 1 s.size) (ch s 0)) else (E0,E0,false)
theorem dropWhile_le {α:Type} (p:α → Bool) (l:List α):(l.dropWhile p).length ≤ l.length:=by
 induction l with
 | nil=>exact Nat.le_refl _
 | cons a l ih=>rw [List.dropWhile_cons];split <;> simp <;> omega
theorem tlB_size (s:ByteArray):(tlB s).size ≤ s.size:=by
 unfold tlB
 rw [bs_size,← tl_len]
 exact dropWhile_le _ _
theorem cpB_size (s p:ByteArray):(cpB s p).1.size ≤ s.size:=by
 unfold cpB
 split
 ·show (s.extract p.size s.size).size ≤ _
  rw [size_ext s _ _ (Nat.le_refl _)];omega
 ·exact Nat.le_refl _
theorem ext_size_le (s:ByteArray) (a b:Nat):(s.extract a b).size ≤ s.size:=by
 rw [← tl_len,list_ext,← tl_len,List.length_take,List.length_drop];omega
theorem qtR_size (u:ByteArray) (k:Nat):(qtR u k).1.size ≤ u.size ∧ (qtR u k).2.1.size ≤ u.size:=by
 refine ⟨ext_size_le _ _ _,?_⟩
 unfold qtR
 dsimp only
 split
 ·exact ext_size_le _ _ _
 ·exact Nat.zero_le _
theorem qtB_size (s:ByteArray):(qtB s).1.size ≤ s.size ∧ (qtB s).2.1.size ≤ s.size:=by
 unfold qtB
 split
 ·exact ⟨Nat.le_trans (qtR_size _ _).1 (ext_size_le _ _ _),Nat.le_trans (qtR_size _ _).2 (ext_size_le _ _ _)⟩
 ·exact ⟨Nat.zero_le _,Nat.zero_le _⟩
theorem tl_any (s:ByteArray) (w:World):Calls Tryz.prog 144 #[.string s,.string ⟨#[9,10,13,32]⟩] w fun e w'=>e = .returned (.string (tlB s)) ∧ Below w.heap.size w w':=strTrimLeft s w
theorem prefix_size {s p:ByteArray} (h:Lib.hasPrefix s.data.toList p.data.toList = true):p.size ≤ s.size:=by
 unfold Lib.hasPrefix at h
 have:=(List.isPrefixOf_iff_prefix.1 h).length_le
 rwa [tl_len,tl_len] at this
theorem cp_lite (s p:ByteArray) (w:World):Calls Tryz.prog 164 #[.string s,.string p] w fun e w'=>e = .returned (.tuple #[.string (cpB s p).1,.bool (cpB s p).2]) ∧ w' = w:=by
 have cH:=fun w=>liteHasPrefix s p w
 unfold cpB
 cases h:Lib.hasPrefix s.data.toList p.data.toList
 ·rw [h] at cH
  rw [if_neg (by decide)]
  clear h
  go_enter Tryz.func164,Tryz.ntmps164
  go_wp2_with (go_at_call 109;refine (cH _).mono ?_;rintro e w1 ⟨rfl,rfl⟩)
  exact bodyPost_ret (v:=.tuple #[.string s,.bool false]) (by simp [results,Tryz.results164,go_sem]) rfl ⟨rfl,rfl⟩
 ·rw [h] at cH
  rw [if_pos rfl]
  have hp:=prefix_size h
  have sl:∀ w:World,(Instr.slice 9 (.string s) (some (.int .i64 (p.size:Int))) none none).run Tryz.prog w = .ok (.string (s.extract p.size s.size)) w:=fun w=>slice_from s p.size hp w
  clear h
  go_enter Tryz.func164,Tryz.ntmps164
  go_wp2_with (go_at_call 109;refine (cH _).mono ?_;rintro e w1 ⟨rfl,rfl⟩)
  exact bodyPost_ret (v:=.tuple #[.string (s.extract p.size s.size),.bool true]) (by simp [results,Tryz.results164,go_sem]) rfl ⟨rfl,rfl⟩
theorem cp_any (s p:ByteArray) (w:World):Calls Tryz.prog 139 #[.string s,.string p] w fun e w'=>e = .returned (.tuple #[.string (cpB s p).1,.bool (cpB s p).2]) ∧ w' = w:=by
 have cC:=fun w=>cp_lite s p w
 generalize (cpB s p).1 = a at *
 generalize (cpB s p).2 = b at *
 go_enter Tryz.func139,Tryz.ntmps139
 go_wp2_with (go_at_call 164;refine (cC _).mono ?_;rintro e w1 ⟨rfl,rfl⟩)
 exact bodyPost_ret (v:=.tuple #[.string a,.bool b]) (by simp [results,Tryz.results139,go_sem]) rfl ⟨rfl,rfl⟩
theorem one_ext (s:ByteArray) (h:0 < s.size):s.extract 0 1 = ⟨#[s.data.toList.getD 0 0]⟩:=by
 apply ba_ext
 rw [list_ext,List.drop_zero]
 show s.data.toList.take 1 = [s.data.toList.getD 0 0]
 rw [← tl_len] at h
 cases hl:s.data.toList with
 | nil=>rw [hl] at h;exact absurd h (by decide)
 | cons a l=>rfl
theorem qt_any (s:ByteArray) (w:World) (hs:s.size ≤ 9223372036854775800):Calls Tryz.prog 165 #[.string s] w fun e w'=>e = .returned (.tuple #[.string (qtB s).1,.string (qtB s).2.1,.bool (qtB s).2.2]) ∧ Below w.heap.size w w':=by
 have hem:(s.toList == []) = decide (s.size = 0):=nempty s
 by_cases h0:0 < s.size
 ·rw [decide_eq_false (by omega)] at hem
  have hemp:s.toList.isEmpty = false:=by cases hl:s.toList with | nil=>rw [hl] at hem;exact absurd hem (by decide) | cons _ _=>rfl
  have ix:∀ w:World,(Instr.index 9 (.string s) (.int .i64 0)).run Tryz.prog w = .ok (.int .u8 (ch s 0:Int)) w:=fun w=>idx (w:=w) s 0 h0 .i64
  by_cases hq:ch s 0 = 34 ∨ ch s 0 = 39
  ·have hQ:qtB s = qtR (s.extract 1 s.size) (fstN (s.extract 1 s.size) (ch s 0)):=by unfold qtB;rw [if_pos ⟨h0,hq⟩]
   have s1:∀ w:World,(Instr.slice 9 (.string s) (some (.int .i64 1)) none none).run Tryz.prog w = .ok (.string (s.extract 1 s.size)) w:=fun w=>slice_from s 1 (by omega) w
   have s2:∀ w:World,(Instr.slice 9 (.string s) none (some (.int .i64 1)) none).run Tryz.prog w = .ok (.string ⟨#[s.data.toList.getD 0 0]⟩) w:=fun w=>by
    rw [← one_ext s h0,run_slice_string_to_if w 9 _ .i64 _ Tryz.underlying9,if_pos ⟨by omega,by omega⟩];rfl
   have hz:=size_ext s 1 s.size (Nat.le_refl _)
   have cC:=fun w n=>Cut_quiet (s.extract 1 s.size) (s.data.toList.getD 0 0) w n (by omega)
   have hch:(s.data.toList.getD 0 0).toNat = ch s 0:=rfl
   rw [hch] at cC
   have hcv:cutV (s.extract 1 s.size) (ch s 0) = .tuple #[.string (qtR (s.extract 1 s.size) (fstN (s.extract 1 s.size) (ch s 0))).1,.string (qtR (s.extract 1 s.size) (fstN (s.extract 1 s.size) (ch s 0))).2.1,.bool (qtR (s.extract 1 s.size) (fstN (s.extract 1 s.size) (ch s 0))).2.2]:=rfl
   rw [hcv] at cC
   rw [hQ]
   clear hcv hQ hch
   generalize qtR (s.extract 1 s.size) (fstN (s.extract 1 s.size) (ch s 0)) = q at *
   obtain ⟨A,B,C⟩:=q
   generalize s.data.toList.getD 0 0 = c at s2 cC
   generalize s.extract 1 s.size = u at *
   generalize ch s 0 = d at *
   dsimp only at cC ⊢
   rcases hq with rfl | rfl
   all_goals
    go_enter Tryz.func165,Tryz.ntmps165
    go_wp2_with fail
    go_quiet ((go_at_call 151;refine cC _ _))
    go_wp2_with fail
    exact bodyPost_ret (v:=.tuple #[.string A,.string B,.bool C]) (by simp [results,Tryz.results165,go_sem]) rfl ⟨rfl,bdN (Below.refl _ _) _⟩
  ·have hQ:qtB s = (E0,E0,false):=by unfold qtB;rw [if_neg (by omega)]
   rw [hQ]
   have k1:((ch s 0:Int) != 34) = true:=bne_iff_ne.2 (by omega)
   have k2:((ch s 0:Int) != 39) = true:=bne_iff_ne.2 (by omega)
   generalize ch s 0 = c at *
   clear hq hQ
   go_enter Tryz.func165,Tryz.ntmps165
   go_wp2_with fail
   exact bodyPost_ret (v:=.tuple #[.string E0,.string E0,.bool false]) (by simp [results,Tryz.results165,go_sem]) rfl ⟨rfl,Below.refl _ _⟩
 ·have hQ:qtB s = (E0,E0,false):=by unfold qtB;rw [if_neg (by omega)]
  rw [hQ]
  rw [decide_eq_true (by omega)] at hem
  have hemp:s.toList.isEmpty = true:=by cases hl:s.toList with | nil=>rfl | cons _ _=>rw [hl] at hem;exact absurd hem (by simp)
  clear hQ
  go_enter Tryz.func165,Tryz.ntmps165
  go_wp2_with fail
  exact bodyPost_ret (v:=.tuple #[.string E0,.string E0,.bool false]) (by simp [results,Tryz.results165,go_sem]) rfl ⟨rfl,Below.refl _ _⟩
def setB (ok:ByteArray → Bool) (nm s:ByteArray):ByteArray × Bool :=
 if decide ((tlB s).size < s.size) && ((cpB (tlB s) nm).2 && ((cpB (tlB (cpB (tlB s) nm).1) ⟨#[61]⟩).2 && ((qtB (tlB (cpB (tlB (cpB (tlB s) nm).1) ⟨#[61]⟩).1)).2.2 && ok (qtB (tlB (cpB (tlB (cpB (tlB s) nm).1) ⟨#[61]⟩).1)).1))) then
  ((qtB (tlB (cpB (tlB (cpB (tlB s) nm).1) ⟨#[61]⟩).1)).2.1,true)
 else (s,false)
theorem setB_size (ok:ByteArray → Bool) (nm s:ByteArray):(setB ok nm s).1.size ≤ s.size:=by
 unfold setB
 split
 ·exact Nat.le_trans (qtB_size _).2 (Nat.le_trans (tlB_size _) (Nat.le_trans (cpB_size _ _) (Nat.le_trans (tlB_size _) (Nat.le_trans (cpB_size _ _) (tlB_size _)))))
 ·exact Nat.le_refl _
def Allows (f:Nat) (ok:ByteArray → Bool):Prop:=∀ (v:ByteArray) (w:World),v.size < 4294967281 → FoldTab w → Calls Tryz.prog f #[.string v] w fun e w'=>e = .returned (.bool (ok v)) ∧ Below w.heap.size w w'
theorem set_core (f:Nat) (hen:∀ ag w,(callFunc f ag).run Tryz.prog w = .ok (.enter f ag) w) (nm s i1 j1 i2 j2 i3 v r:ByteArray) (b1 b2 b3 ok:Bool) (w:World) (hT:FoldTab w)
  (T1:∀ w,Calls Tryz.prog 144 #[.string s,.string ⟨#[9,10,13,32]⟩] w fun e w'=>e = .returned (.string i1) ∧ Below w.heap.size w w')
  (C1:∀ w,Calls Tryz.prog 139 #[.string i1,.string nm] w fun e w'=>e = .returned (.tuple #[.string j1,.bool b1]) ∧ w' = w)
  (T2:∀ w,Calls Tryz.prog 144 #[.string j1,.string ⟨#[9,10,13,32]⟩] w fun e w'=>e = .returned (.string i2) ∧ Below w.heap.size w w')
  (C2:∀ w,Calls Tryz.prog 139 #[.string i2,.string ⟨#[61]⟩] w fun e w'=>e = .returned (.tuple #[.string j2,.bool b2]) ∧ w' = w)
  (T3:∀ w,Calls Tryz.prog 144 #[.string j2,.string ⟨#[9,10,13,32]⟩] w fun e w'=>e = .returned (.string i3) ∧ Below w.heap.size w w')
  (Q:∀ w,Calls Tryz.prog 165 #[.string i3] w fun e w'=>e = .returned (.tuple #[.string v,.string r,.bool b3]) ∧ Below w.heap.size w w')
  (A:∀ w,FoldTab w → Calls Tryz.prog f #[.string v] w fun e w'=>e = .returned (.bool ok) ∧ Below w.heap.size w w') :
  Calls Tryz.prog 140 #[.string s,.string nm,.func (.func f) #[] #[]] w fun e w'=>e = .returned (.tuple #[.string (if decide (i1.size < s.size) && (b1 && (b2 && (b3 && ok))) then (r,true) else (s,false)).1,.bool (if decide (i1.size < s.size) && (b1 && (b2 && (b3 && ok))) then (r,true) else (s,false)).2]) ∧ Below w.heap.size w w':=by
 have HB:=Below.refl w.heap.size w
 have key:(¬ i1.size < s.size) ∨ (i1.size < s.size ∧ b1 = false) ∨ (i1.size < s.size ∧ b1 = true ∧ b2 = false) ∨ (i1.size < s.size ∧ b1 = true ∧ b2 = true ∧ b3 = false) ∨ (i1.size < s.size ∧ b1 = true ∧ b2 = true ∧ b3 = true ∧ ok = false) ∨ (i1.size < s.size ∧ b1 = true ∧ b2 = true ∧ b3 = true ∧ ok = true):=by
  by_cases h:i1.size < s.size <;> cases b1 <;> cases b2 <;> cases b3 <;> cases ok <;> simp [h]
 rcases key with ha | ⟨ha,rfl⟩ | ⟨ha,rfl,rfl⟩ | ⟨ha,rfl,rfl,rfl⟩ | ⟨ha,rfl,rfl,rfl,rfl⟩ | ⟨ha,rfl,rfl,rfl,rfl⟩
 all_goals
  first | (have ha':¬ (i1.size:Int) < (s.size:Int):=by omega) | (have ha':(i1.size:Int) < (s.size:Int):=by omega)
  simp only [ha,decide_true,decide_false,Bool.false_and,Bool.and_true,Bool.and_false,if_true,Bool.false_eq_true,if_false]
  go_enter Tryz.func140,Tryz.ntmps140
  go_wp2_with (first
   | (go_at_call_of 144 (Value.string s);refine (T1 _).mono ?_;clear T1;rintro e w1 ⟨rfl,h1⟩;replace HB:=HB.trans (h1.mono HB.size))
   | (go_at_call_of 139 (Value.string i1);refine (C1 _).mono ?_;clear C1;rintro e w2 ⟨rfl,rfl⟩)
   | (go_at_call_of 144 (Value.string j1);refine (T2 _).mono ?_;clear T2;rintro e w3 ⟨rfl,h3⟩;replace HB:=HB.trans (h3.mono HB.size))
   | (go_at_call_of 139 (Value.string i2);refine (C2 _).mono ?_;clear C2;rintro e w4 ⟨rfl,rfl⟩)
   | (go_at_call_of 144 (Value.string j2);refine (T3 _).mono ?_;clear T3;rintro e w5 ⟨rfl,h5⟩;replace HB:=HB.trans (h5.mono HB.size))
   | (go_at_call 165;refine (Q _).mono ?_;clear Q;rintro e w6 ⟨rfl,h6⟩;replace HB:=HB.trans (h6.mono HB.size))
   | (go_at_fn f;refine (A _ (hT.below HB hT.lt)).mono ?_;clear A;rintro e w7 ⟨rfl,h7⟩;replace HB:=HB.trans (h7.mono HB.size)))
  first
   | exact bodyPost_ret (v:=.tuple #[.string s,.bool false]) (by simp [results,Tryz.results140,go_sem]) rfl ⟨rfl,HB⟩
   | exact bodyPost_ret (v:=.tuple #[.string r,.bool true]) (by simp [results,Tryz.results140,go_sem]) rfl ⟨rfl,HB⟩
theorem set_any (f:Nat) (hen:∀ ag w,(callFunc f ag).run Tryz.prog w = .ok (.enter f ag) w) (ok:ByteArray → Bool) (hA:Allows f ok) (nm s:ByteArray) (w:World) (hs:s.size < 4294967281) (hT:FoldTab w) :
  Calls Tryz.prog 140 #[.string s,.string nm,.func (.func f) #[] #[]] w fun e w'=>e = .returned (.tuple #[.string (setB ok nm s).1,.bool (setB ok nm s).2]) ∧ Below w.heap.size w w':=by
 have h1:=tlB_size s
 have h2:=cpB_size (tlB s) nm
 have h3:=tlB_size (cpB (tlB s) nm).1
 have h4:=cpB_size (tlB (cpB (tlB s) nm).1) ⟨#[61]⟩
 have h5:=tlB_size (cpB (tlB (cpB (tlB s) nm).1) ⟨#[61]⟩).1
 have h6:=(qtB_size (tlB (cpB (tlB (cpB (tlB s) nm).1) ⟨#[61]⟩).1)).1
 exact set_core f hen nm s _ _ _ _ _ _ _ _ _ _ _ w hT (fun w=>tl_any s w) (fun w=>cp_any _ nm w) (fun w=>tl_any _ w) (fun w=>cp_any _ ⟨#[61]⟩ w) (fun w=>tl_any _ w) (fun w=>qt_any _ w (by omega)) (fun w h=>hA _ w (by omega) h)
end Go.Proofs.YtchfphakhmifmabGreatDoor

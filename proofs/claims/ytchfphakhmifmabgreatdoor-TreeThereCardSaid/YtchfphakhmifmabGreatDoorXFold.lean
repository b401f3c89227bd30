import Derived.Test.YtchfphakhmifmabGreatDoorXFd
namespace Go.Proofs.YtchfphakhmifmabGreatDoor
set_option maxRecDepth 1000000
set_option maxHeartbeats 16000000
open Go.ChangeShapes Go.WideShapes Go.ChangeAt Go.RowKit Go.Shelf Go.Lib
theorem foldEq_high (x y:UInt8) (hx:128 ≤ x.toNat) (hy:y.toNat < 128):Lib.foldEq x y = false:=by
 unfold Lib.foldEq
 exact decide_eq_false (by omega)
def FoldA (s:ByteArray) (i:Nat) (v:Nat → Value):Act:={ tmps:=#[.string s,.string ⟨#[117,116,102,45,56]⟩,v 2,v 3,v 4,.int .i64 (i:Int),v 6,v 7,v 8,v 9,v 10,v 11,v 12,v 13,v 14,v 15,v 16,v 17,v 18,v 19,v 20,v 21,v 22,v 23,v 24,v 25,v 26,v 27,v 28,v 29,v 30,v 31,v 32,v 33,v 34,v 35,v 36,v 37,v 38,v 39,v 40,v 41,v 42,v 43,v 44,v 45,v 46,v 47,v 48,v 49,v 50,v 51,v 52,v 53,v 54,v 55,v 56,v 57,v 58,v 59,v 60,v 61,v 62,v 63,v 64,v 65,v 66,v 67,v 68,v 69,v 70,v 71,v 72,v 73,v 74,v 75,v 76,v 77,v 78,v 79,v 80,v 81,v 82,v 83,v 84,v 85,v 86,v 87,v 88,v 89,v 90,v 91,v 92,v 93,v 94,v 95,v 96,v 97,v 98,v 99,v 100,v 101,v 102,v 103,v 104,v 105,v 106,v 107,v 108,v 109,v 110,v 111,v 112,v 113,v 114,v 115,v 116,v 117,v 118,v 119,v 120,v 121,v 122],defers:=[] }
theorem foldA_mk (s:ByteArray) (i:Nat) (a:Act) (h:a = FoldA s i (fun k=>a.tmps.getD k undef)):∃ v,a = FoldA s i v:=⟨_,h⟩
def FoldJ (s:ByteArray) (w:World) (a:Act) (w':World):Prop :=
 w' = w ∧ Lib.equalFold s.data.toList UTFs = false ∧ ∃ i:Nat,i < 5 ∧ i < s.size ∧ 128 ≤ ch s i ∧ ∃ v,a = FoldA s i v
theorem EqualFold_utf (s:ByteArray) (w:World) (hs:s.size < 4294967281) (hT:FoldTab w) :
  Calls Tryz.prog 166 #[.string s,.string ⟨#[117,116,102,45,56]⟩] w fun e w'=>e = .returned (.bool (Lib.equalFold s.data.toList UTFs)) ∧ Below w.heap.size w w':=by
 go_enter Tryz.func166,Tryz.ntmps166
 go_wp2_with fail
 refine wp_scope_jumps 0 (FoldJ s w) (fun _ _=>0) rfl ?_ ?_
 ·obtain ⟨M,hM⟩:∃ M:Nat,min (s.size:Int) 5 = (M:Int):=⟨min s.size 5,by omega⟩
  have hMs:M ≤ s.size:=by omega
  have hMt:M ≤ 5:=by omega
  have hMe:M = s.size ∨ M = 5:=by omega
  have hT128:∀ j,j < 5 → (UTFs.getD j 0).toNat < 128:=by decide
  go_wp2_with fail
  go_loopg [5] M (fun g s5 wx=>w = wx ∧ ∃ i:Nat,i + g = M ∧ s5 = .int .i64 i ∧ Lib.equalFold (s.data.toList.drop i) (UTFs.drop i) = Lib.equalFold s.data.toList UTFs)
  case atStart=>exact ⟨rfl,0,by omega,rfl,rfl⟩
  case round =>
   obtain ⟨rfl,i,hig,rfl,hinv⟩:=hrel
   have HI:Hid (Lib.equalFold (s.data.toList.drop i) (UTFs.drop i) = Lib.equalFold s.data.toList UTFs):=hinv
   clear hinv hM
   cases gk with
   | zero =>
    have hiM:¬ ((i:Int) < (M:Int)):=by omega
    obtain rfl:i = M:=by omega
    have hE:Hid (Lib.equalFold s.data.toList UTFs = decide (s.size = 5)):=by
     show _ = _
     rw [← HI.out,Lib.equalFold_end _ _ (by
      rcases hMe with h | h
      ·exact Or.inl (List.drop_eq_nil_of_le (by rw [tl_len];omega))
      ·exact Or.inr (List.drop_eq_nil_of_le (by rw [h];decide))),List.length_drop,List.length_drop,tl_len]
     exact decide_eq_decide.2 (by simp;omega)
    by_cases hst:s.size = 5
    ·have hb:((s.size:Int) == 5) = true:=beq_iff_eq.2 (by omega)
     go_wp2_with fail
     simp only [Exit.jump]
     go_ret
     exact ⟨by rw [hE.out,decide_eq_true hst];rfl,Below.refl _ _⟩
    ·have hb:((s.size:Int) == 5) = false:=beq_eq_false_iff_ne.2 (by omega)
     go_wp2_with fail
     simp only [Exit.jump]
     go_ret
     exact ⟨by rw [hE.out,decide_eq_false hst];rfl,Below.refl _ _⟩
   | succ g =>
    have hiM:(i:Int) < (M:Int):=by omega
    have hi5:i < 5:=by omega
    have his:i < s.size:=by omega
    have hxl:s.data.toList.drop i = s.data.toList.getD i 0 :: s.data.toList.drop (i + 1):=by
     rw [List.drop_eq_getElem_cons (by rw [tl_len];exact his),List.getD_eq_getElem?_getD,List.getElem?_eq_getElem (by rw [tl_len];exact his)];rfl
    have hyl:UTFs.drop i = UTFs.getD i 0 :: UTFs.drop (i + 1):=by
     rw [List.drop_eq_getElem_cons (by exact hi5),List.getD_eq_getElem?_getD,List.getElem?_eq_getElem (by exact hi5)];rfl
    have ix:∀ w:World,(Instr.index 9 (.string s) (.int .i64 (i:Int))).run Tryz.prog w = .ok (.int .u8 (ch s i:Int)) w:=fun w=>idx (w:=w) s i his .i64
    have iy:∀ w:World,(Instr.index 9 (.string ⟨#[117,116,102,45,56]⟩) (.int .i64 (i:Int))).run Tryz.prog w = .ok (.int .u8 (ch ⟨#[117,116,102,45,56]⟩ i:Int)) w:=fun w=>idx (w:=w) ⟨#[117,116,102,45,56]⟩ i hi5 .i64
    have hy128:=hT128 i hi5
    have hx256:ch s i < 256:=ch_lt s i
    have hcx:ch s i = (s.data.toList.getD i 0).toNat:=rfl
    have hcy:ch ⟨#[117,116,102,45,56]⟩ i = (UTFs.getD i 0).toNat:=rfl
    have HX:Hid (s.data.toList.drop i = s.data.toList.getD i 0 :: s.data.toList.drop (i + 1) ∧ UTFs.drop i = UTFs.getD i 0 :: UTFs.drop (i + 1)):=⟨hxl,hyl⟩
    clear hxl hyl
    rw [hcy] at iy
    by_cases hx128:ch s i < 128
    ·rw [hcx] at ix hx256 hx128
     clear hcx hcy
     generalize s.data.toList.getD i 0 = x at *
     generalize UTFs.getD i 0 = y at *
     have hor:bits .or .u8 (x.toNat:Int) (y.toNat:Int) = ((x.toNat ||| y.toNat:Nat):Int):=u8_or_nat _ _ (by omega) (by omega)
     have hor128:¬ ((128:Int) ≤ ((x.toNat ||| y.toNat:Nat):Int)):=by have:=Nat.or_lt_two_pow (n:=7) hx128 hy128;omega
     go_wp2
     all_goals (try simp only [beq_iff_eq,beq_eq_false_iff_ne,ne_eq] at *)
     all_goals first
      | (
       go_roundg g
       case measure=>omega
       case rel=>exact ⟨rfl,i + 1,by omega,by first | rfl | simp,by rw [← HI.out,HX.out.1,HX.out.2,Lib.equalFold_yes _ _ _ _ (decide_eq_true (by omega))]⟩)
      | (
       simp only [Exit.jump]
       go_ret
       refine ⟨?_,Below.refl _ _⟩
       rw [← HI.out,HX.out.1,HX.out.2,Lib.equalFold_no _ _ _ _ (decide_eq_false (by omega))]
       rfl)
    ·have HF:Hid (Lib.equalFold s.data.toList UTFs = false):=by
      show _ = _
      rw [← HI.out,HX.out.1,HX.out.2,Lib.equalFold_no _ _ _ _ (foldEq_high _ _ (by rw [← hcx];omega) hy128)]
     have HC:Hid (128 ≤ ch s i):=by show 128 ≤ ch s i;omega
     have hor:bits .or .u8 (ch s i:Int) ((UTFs.getD i 0).toNat:Int) = ((ch s i ||| (UTFs.getD i 0).toNat:Nat):Int):=u8_or_nat _ _ (by omega) (by omega)
     have hor128:((128:Int) ≤ ((ch s i ||| (UTFs.getD i 0).toNat:Nat):Int)):=by have:ch s i ≤ ch s i ||| (UTFs.getD i 0).toNat:=Nat.left_le_or;omega
     clear hcx hcy
     generalize (UTFs.getD i 0).toNat = y at *
     generalize ch s i = x at ix hor hor128
     go_wp2
     go_step3
     simp only [Exit.then,Exit.inBlock,Exit.jump]
     exact ⟨trivial,rfl,HF.out,i,hi5,his,HC.out,foldA_mk s i _ rfl⟩
 ·rintro a w1 ⟨rfl,HF,i,hi5,his,HC,v,rfl⟩
  unfold FoldA
  have HF:Hid (Lib.equalFold s.data.toList UTFs = false):=HF
  have hz:(s.extract i s.size).size = s.size - i:=size_ext s i s.size (Nat.le_refl _)
  have sl:∀ w:World,(Instr.slice 9 (.string s) (some (.int .i64 (i:Int))) none none).run Tryz.prog w = .ok (.string (s.extract i s.size)) w:=fun w=>slice_from s i (by omega) w
  obtain ⟨d1,d2,d3,d4⟩:=dec_high (s.extract i s.size) 0 (by omega) (by rw [ch_ext s i s.size 0 (by omega)];exact HC)
  have dM:=Lib.rune_le (s.extract i s.size) 0
  have hnx:∀ ty,(Instr.next (.pointer (some ⟨w1.heap.size,0,none⟩)) true ty).run Tryz.prog (w1.iter (s.extract i s.size) 0) = _:=fun ty=>Lib.run_next_any_at (w1.iter (s.extract i s.size) 0) w1.heap.size (s.extract i s.size) 0 ty (World.iter_heap w1 _ 0) (by omega)
  have hB:Below w1.heap.size w1 ((w1.iter (s.extract i s.size) 0).iterAt w1.heap.size (s.extract i s.size) (0 + (Utf8.decode (s.extract i s.size) 0).2)):=Lib.below_iterAt ((Below.refl _ w1).alloc (Nat.le_refl _) _) (Nat.le_refl _) _ _
  clear d4 d3 d2 HC
  obtain ⟨R,hR⟩:∃ R,(Utf8.decode (s.extract i s.size) 0).1 = R:=⟨_,rfl⟩
  obtain ⟨W,hW⟩:∃ W,(w1.iter (s.extract i s.size) 0).iterAt w1.heap.size (s.extract i s.size) (0 + (Utf8.decode (s.extract i s.size) 0).2) = W:=⟨_,rfl⟩
  rw [hR] at d1 dM
  rw [hR,hW] at hnx
  rw [hW] at hB
  clear hR hW
  obtain ⟨S,hS⟩:∃ S,s.extract i s.size = S:=⟨_,rfl⟩
  rw [hS] at sl hnx hz
  clear hS
  have k1:¬ (R:Int) < 128:=by omega
  have hTW:FoldTab W:=hT.below hB hT.lt
  have e5:i = 0 ∨ i = 1 ∨ i = 2 ∨ i = 3 ∨ i = 4:=by omega
  rcases e5 with rfl | rfl | rfl | rfl | rfl
  ·have sl0:∀ w:World,(Instr.slice 9 (.string s) (some (.int .i64 0)) none none).run Tryz.prog w = .ok (.string S) w:=sl
   have st:∀ w:World,(Instr.slice 9 (.string ⟨#[117,116,102,45,56]⟩) (some (.int .i64 0)) none none).run Tryz.prog w = .ok (.string ⟨#[117,116,102,45,56]⟩) w:=fun w=>slice_from ⟨#[117,116,102,45,56]⟩ 0 (by decide) w
   have s2:∀ w:World,(Instr.slice 9 (.string ⟨#[117,116,102,45,56]⟩) (some (.int .i64 1)) none none).run Tryz.prog w = .ok (.string ⟨#[116,102,45,56]⟩) w:=fun w=>slice_from ⟨#[117,116,102,45,56]⟩ 1 (by decide) w
   have cD:∀ w,Calls Tryz.prog 155 #[.string ⟨#[117,116,102,45,56]⟩] w fun e w'=>e = .returned (.tuple #[.int .i32 117,.int .i64 1]) ∧ w' = w:=fun w=>DecodeRune_ascii ⟨#[117,116,102,45,56]⟩ 117 (by decide) rfl (by decide) w
   have f1:Calls Tryz.prog 180 #[.int .i32 117] W fun e w'=>e = .returned (.int .i32 85) ∧ w' = W:=SimpleFold_tab 117 (by decide) W hTW
   have k2:((117:Int) == (R:Int)) = false:=beq_eq_false_iff_ne.2 (by omega)
   have k3:(117:Int) < (R:Int):=by omega
   clear sl
   have f2:Calls Tryz.prog 180 #[.int .i32 85] W fun e w'=>e = .returned (.int .i32 117) ∧ w' = W:=SimpleFold_tab 85 (by decide) W hTW
   have k4:(85:Int) < (R:Int):=by omega
   go_wp2_with fail
   refine wp_loop_rounds 1 ?_
   rw [rounds_succ]
   go_wp2_with (first
    | (go_at_call 155;refine (cD _).mono ?_;rintro e w2 ⟨rfl,rfl⟩)
    | (go_at_call_of 180 (Value.int .i32 117);refine f1.mono ?_;rintro e w2 ⟨rfl,rfl⟩))
   refine wp_loop_rounds 2 ?_
   rw [rounds_succ]
   go_wp2_with (go_at_call_of 180 (Value.int .i32 85);refine f2.mono ?_;rintro e w2 ⟨rfl,rfl⟩)
   rw [rounds_succ]
   go_wp2_with fail
   simp only [Exit.jump]
   go_ret
   exact ⟨by rw [HF.out];rfl,hB⟩
  ·have sl0:∀ w:World,(Instr.slice 9 (.string s) (some (.int .i64 1)) none none).run Tryz.prog w = .ok (.string S) w:=sl
   have st:∀ w:World,(Instr.slice 9 (.string ⟨#[117,116,102,45,56]⟩) (some (.int .i64 1)) none none).run Tryz.prog w = .ok (.string ⟨#[116,102,45,56]⟩) w:=fun w=>slice_from ⟨#[117,116,102,45,56]⟩ 1 (by decide) w
   have s2:∀ w:World,(Instr.slice 9 (.string ⟨#[116,102,45,56]⟩) (some (.int .i64 1)) none none).run Tryz.prog w = .ok (.string ⟨#[102,45,56]⟩) w:=fun w=>slice_from ⟨#[116,102,45,56]⟩ 1 (by decide) w
   have cD:∀ w,Calls Tryz.prog 155 #[.string ⟨#[116,102,45,56]⟩] w fun e w'=>e = .returned (.tuple #[.int .i32 116,.int .i64 1]) ∧ w' = w:=fun w=>DecodeRune_ascii ⟨#[116,102,45,56]⟩ 116 (by decide) rfl (by decide) w
   have f1:Calls Tryz.prog 180 #[.int .i32 116] W fun e w'=>e = .returned (.int .i32 84) ∧ w' = W:=SimpleFold_tab 116 (by decide) W hTW
   have k2:((116:Int) == (R:Int)) = false:=beq_eq_false_iff_ne.2 (by omega)
   have k3:(116:Int) < (R:Int):=by omega
   clear sl
   have f2:Calls Tryz.prog 180 #[.int .i32 84] W fun e w'=>e = .returned (.int .i32 116) ∧ w' = W:=SimpleFold_tab 84 (by decide) W hTW
   have k4:(84:Int) < (R:Int):=by omega
   go_wp2_with fail
   refine wp_loop_rounds 1 ?_
   rw [rounds_succ]
   go_wp2_with (first
    | (go_at_call 155;refine (cD _).mono ?_;rintro e w2 ⟨rfl,rfl⟩)
    | (go_at_call_of 180 (Value.int .i32 116);refine f1.mono ?_;rintro e w2 ⟨rfl,rfl⟩))
   refine wp_loop_rounds 2 ?_
   rw [rounds_succ]
   go_wp2_with (go_at_call_of 180 (Value.int .i32 84);refine f2.mono ?_;rintro e w2 ⟨rfl,rfl⟩)
   rw [rounds_succ]
   go_wp2_with fail
   simp only [Exit.jump]
   go_ret
   exact ⟨by rw [HF.out];rfl,hB⟩
  ·have sl0:∀ w:World,(Instr.slice 9 (.string s) (some (.int .i64 2)) none none).run Tryz.prog w = .ok (.string S) w:=sl
   have st:∀ w:World,(Instr.slice 9 (.string ⟨#[117,116,102,45,56]⟩) (some (.int .i64 2)) none none).run Tryz.prog w = .ok (.string ⟨#[102,45,56]⟩) w:=fun w=>slice_from ⟨#[117,116,102,45,56]⟩ 2 (by decide) w
   have s2:∀ w:World,(Instr.slice 9 (.string ⟨#[102,45,56]⟩) (some (.int .i64 1)) none none).run Tryz.prog w = .ok (.string ⟨#[45,56]⟩) w:=fun w=>slice_from ⟨#[102,45,56]⟩ 1 (by decide) w
   have cD:∀ w,Calls Tryz.prog 155 #[.string ⟨#[102,45,56]⟩] w fun e w'=>e = .returned (.tuple #[.int .i32 102,.int .i64 1]) ∧ w' = w:=fun w=>DecodeRune_ascii ⟨#[102,45,56]⟩ 102 (by decide) rfl (by decide) w
   have f1:Calls Tryz.prog 180 #[.int .i32 102] W fun e w'=>e = .returned (.int .i32 70) ∧ w' = W:=SimpleFold_tab 102 (by decide) W hTW
   have k2:((102:Int) == (R:Int)) = false:=beq_eq_false_iff_ne.2 (by omega)
   have k3:(102:Int) < (R:Int):=by omega
   clear sl
   have f2:Calls Tryz.prog 180 #[.int .i32 70] W fun e w'=>e = .returned (.int .i32 102) ∧ w' = W:=SimpleFold_tab 70 (by decide) W hTW
   have k4:(70:Int) < (R:Int):=by omega
   go_wp2_with fail
   refine wp_loop_rounds 1 ?_
   rw [rounds_succ]
   go_wp2_with (first
    | (go_at_call 155;refine (cD _).mono ?_;rintro e w2 ⟨rfl,rfl⟩)
    | (go_at_call_of 180 (Value.int .i32 102);refine f1.mono ?_;rintro e w2 ⟨rfl,rfl⟩))
   refine wp_loop_rounds 2 ?_
   rw [rounds_succ]
   go_wp2_with (go_at_call_of 180 (Value.int .i32 70);refine f2.mono ?_;rintro e w2 ⟨rfl,rfl⟩)
   rw [rounds_succ]
   go_wp2_with fail
   simp only [Exit.jump]
   go_ret
   exact ⟨by rw [HF.out];rfl,hB⟩
  ·have sl0:∀ w:World,(Instr.slice 9 (.string s) (some (.int .i64 3)) none none).run Tryz.prog w = .ok (.string S) w:=sl
   have st:∀ w:World,(Instr.slice 9 (.string ⟨#[117,116,102,45,56]⟩) (some (.int .i64 3)) none none).run Tryz.prog w = .ok (.string ⟨#[45,56]⟩) w:=fun w=>slice_from ⟨#[117,116,102,45,56]⟩ 3 (by decide) w
   have s2:∀ w:World,(Instr.slice 9 (.string ⟨#[45,56]⟩) (some (.int .i64 1)) none none).run Tryz.prog w = .ok (.string ⟨#[56]⟩) w:=fun w=>slice_from ⟨#[45,56]⟩ 1 (by decide) w
   have cD:∀ w,Calls Tryz.prog 155 #[.string ⟨#[45,56]⟩] w fun e w'=>e = .returned (.tuple #[.int .i32 45,.int .i64 1]) ∧ w' = w:=fun w=>DecodeRune_ascii ⟨#[45,56]⟩ 45 (by decide) rfl (by decide) w
   have f1:Calls Tryz.prog 180 #[.int .i32 45] W fun e w'=>e = .returned (.int .i32 45) ∧ w' = W:=SimpleFold_tab 45 (by decide) W hTW
   have k2:((45:Int) == (R:Int)) = false:=beq_eq_false_iff_ne.2 (by omega)
   have k3:(45:Int) < (R:Int):=by omega
   clear sl
   go_wp2_with fail
   refine wp_loop_rounds 1 ?_
   rw [rounds_succ]
   go_wp2_with (first
    | (go_at_call 155;refine (cD _).mono ?_;rintro e w2 ⟨rfl,rfl⟩)
    | (go_at_call_of 180 (Value.int .i32 45);refine f1.mono ?_;rintro e w2 ⟨rfl,rfl⟩))
   refine wp_loop_rounds 1 ?_
   rw [rounds_succ]
   go_wp2_with fail
   simp only [Exit.jump]
   go_ret
   exact ⟨by rw [HF.out];rfl,hB⟩
  ·have sl0:∀ w:World,(Instr.slice 9 (.string s) (some (.int .i64 4)) none none).run Tryz.prog w = .ok (.string S) w:=sl
   have st:∀ w:World,(Instr.slice 9 (.string ⟨#[117,116,102,45,56]⟩) (some (.int .i64 4)) none none).run Tryz.prog w = .ok (.string ⟨#[56]⟩) w:=fun w=>slice_from ⟨#[117,116,102,45,56]⟩ 4 (by decide) w
   have s2:∀ w:World,(Instr.slice 9 (.string ⟨#[56]⟩) (some (.int .i64 1)) none none).run Tryz.prog w = .ok (.string ⟨#[]⟩) w:=fun w=>slice_from ⟨#[56]⟩ 1 (by decide) w
   have cD:∀ w,Calls Tryz.prog 155 #[.string ⟨#[56]⟩] w fun e w'=>e = .returned (.tuple #[.int .i32 56,.int .i64 1]) ∧ w' = w:=fun w=>DecodeRune_ascii ⟨#[56]⟩ 56 (by decide) rfl (by decide) w
   have f1:Calls Tryz.prog 180 #[.int .i32 56] W fun e w'=>e = .returned (.int .i32 56) ∧ w' = W:=SimpleFold_tab 56 (by decide) W hTW
   have k2:((56:Int) == (R:Int)) = false:=beq_eq_false_iff_ne.2 (by omega)
   have k3:(56:Int) < (R:Int):=by omega
   clear sl
   go_wp2_with fail
   refine wp_loop_rounds 1 ?_
   rw [rounds_succ]
   go_wp2_with (first
    | (go_at_call 155;refine (cD _).mono ?_;rintro e w2 ⟨rfl,rfl⟩)
    | (go_at_call_of 180 (Value.int .i32 56);refine f1.mono ?_;rintro e w2 ⟨rfl,rfl⟩))
   refine wp_loop_rounds 1 ?_
   rw [rounds_succ]
   go_wp2_with fail
   simp only [Exit.jump]
   go_ret
   exact ⟨by rw [HF.out];rfl,hB⟩
end Go.Proofs.YtchfphakhmifmabGreatDoor

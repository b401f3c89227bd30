import Derived.Test.YtchfphakhmifmabGreatDoorXDecl
namespace Go.Proofs.YtchfphakhmifmabGreatDoor
set_option maxRecDepth 1000000
set_option maxHeartbeats 16000000
open Go.ChangeShapes Go.WideShapes Go.ChangeAt Go.RowKit Go.Shelf Go.Lib
theorem str_beq (a b:ByteArray):(a.toList == b.toList) = decide (a = b):=by
 rw [ByteArray.toList_eq,ByteArray.toList_eq]
 by_cases h:a = b
 ·subst h;simp
 ·rw [decide_eq_false h,beq_eq_false_iff_ne]
  exact fun e=>h (ba_ext e)
def verB (v:ByteArray):Bool:=decide (v = ⟨#[49,46,48]⟩)
def encB (v:ByteArray):Bool:=Lib.equalFold v.data.toList UTFs
def staB (v:ByteArray):Bool:=decide (v = ⟨#[121,101,115]⟩) || decide (v = ⟨#[110,111]⟩)
theorem ver_ok:Allows 141 verB:=fun v w _ _=>by
 have h:=str_beq v ⟨#[49,46,48]⟩
 unfold verB
 generalize decide (v = ⟨#[49,46,48]⟩) = b at h ⊢
 have h':(v.toList == [49,46,48]) = b:=by rw [← h,ByteArray.toList_eq ⟨#[49,46,48]⟩]
 go_enter Tryz.func141,Tryz.ntmps141
 go_wp2_with fail
 go_ret
 exact ⟨rfl,Below.refl _ _⟩
theorem enc_ok:Allows 142 encB:=fun v w hv hT=>by
 have cE:=EqualFold_utf v w hv hT
 go_enter Tryz.func142,Tryz.ntmps142
 go_wp2_with (go_at_call 166;refine cE.mono ?_;rintro e w1 ⟨rfl,hb⟩)
 go_ret
 exact ⟨rfl,hb⟩
theorem sta_ok:Allows 143 staB:=fun v w _ _=>by
 have h1:=str_beq v ⟨#[121,101,115]⟩
 have h2:=str_beq v ⟨#[110,111]⟩
 unfold staB
 generalize decide (v = ⟨#[121,101,115]⟩) = b at h1 ⊢
 generalize decide (v = ⟨#[110,111]⟩) = c at h2 ⊢
 have h1':(v.toList == [121,101,115]) = b:=by rw [← h1,ByteArray.toList_eq ⟨#[121,101,115]⟩]
 have h2':(v.toList == [110,111]) = c:=by rw [← h2,ByteArray.toList_eq ⟨#[110,111]⟩]
 cases b
 all_goals
  go_enter Tryz.func143,Tryz.ntmps143
  go_wp2_with fail
  go_ret
  exact ⟨rfl,Below.refl _ _⟩
theorem ent_ver:∀ ag w,(callFunc 141 ag).run Tryz.prog w = .ok (.enter 141 ag) w:=enters_of Tryz.func141 (by kernel_rfl) rfl
theorem ent_enc:∀ ag w,(callFunc 142 ag).run Tryz.prog w = .ok (.enter 142 ag) w:=enters_of Tryz.func142 (by kernel_rfl) rfl
theorem ent_sta:∀ ag w,(callFunc 143 ag).run Tryz.prog w = .ok (.enter 143 ag) w:=enters_of Tryz.func143 (by kernel_rfl) rfl
abbrev bXML:ByteArray:=⟨#[60,63,120,109,108]⟩
abbrev bSHUT:ByteArray:=⟨#[63,62]⟩
def dr1 (s:ByteArray):ByteArray × Bool:=setB verB ⟨#[118,101,114,115,105,111,110]⟩ (cpB s bXML).1
def dr2 (s:ByteArray):ByteArray × Bool:=setB encB ⟨#[101,110,99,111,100,105,110,103]⟩ (dr1 s).1
def dr3 (s:ByteArray):ByteArray × Bool:=setB staB ⟨#[115,116,97,110,100,97,108,111,110,101]⟩ (dr2 s).1
def dr4 (s:ByteArray):ByteArray × Bool:=cpB (tlB (dr3 s).1) bSHUT
def declN (s:ByteArray):Nat:=if (cpB s bXML).2 && ((dr1 s).2 && (dr4 s).2) then s.size - (dr4 s).1.size else 0
theorem dr_size (s:ByteArray):(cpB s bXML).1.size ≤ s.size ∧ (dr1 s).1.size ≤ s.size ∧ (dr2 s).1.size ≤ s.size ∧ (dr3 s).1.size ≤ s.size ∧ (dr4 s).1.size ≤ s.size:=by
 have h0:=cpB_size s bXML
 have h1:(dr1 s).1.size ≤ (cpB s bXML).1.size:=setB_size _ _ _
 have h2:(dr2 s).1.size ≤ (dr1 s).1.size:=setB_size _ _ _
 have h3:(dr3 s).1.size ≤ (dr2 s).1.size:=setB_size _ _ _
 have h4:(dr4 s).1.size ≤ (tlB (dr3 s).1).size:=cpB_size _ _
 have h5:=tlB_size (dr3 s).1
 omega
theorem decl_core (s r0 r1 r2 r3 i r4:ByteArray) (b0 b1 b2 b3 b4:Bool) (w:World) (hz:r4.size ≤ s.size) (hs:s.size < 4294967281) (hT:FoldTab w)
  (C0:∀ w,Calls Tryz.prog 139 #[.string s,.string bXML] w fun e w'=>e = .returned (.tuple #[.string r0,.bool b0]) ∧ w' = w)
  (S1:∀ w,FoldTab w → Calls Tryz.prog 140 #[.string r0,.string ⟨#[118,101,114,115,105,111,110]⟩,.func (.func 141) #[] #[]] w fun e w'=>e = .returned (.tuple #[.string r1,.bool b1]) ∧ Below w.heap.size w w')
  (S2:∀ w,FoldTab w → Calls Tryz.prog 140 #[.string r1,.string ⟨#[101,110,99,111,100,105,110,103]⟩,.func (.func 142) #[] #[]] w fun e w'=>e = .returned (.tuple #[.string r2,.bool b2]) ∧ Below w.heap.size w w')
  (S3:∀ w,FoldTab w → Calls Tryz.prog 140 #[.string r2,.string ⟨#[115,116,97,110,100,97,108,111,110,101]⟩,.func (.func 143) #[] #[]] w fun e w'=>e = .returned (.tuple #[.string r3,.bool b3]) ∧ Below w.heap.size w w')
  (T:∀ w,Calls Tryz.prog 144 #[.string r3,.string ⟨#[9,10,13,32]⟩] w fun e w'=>e = .returned (.string i) ∧ Below w.heap.size w w')
  (C4:∀ w,Calls Tryz.prog 139 #[.string i,.string bSHUT] w fun e w'=>e = .returned (.tuple #[.string r4,.bool b4]) ∧ w' = w) :
  Calls Tryz.prog 110 #[.string s] w fun e w'=>e = .returned (.int .i64 ((if b0 && (b1 && b4) then s.size - r4.size else 0:Nat):Int)) ∧ Below w.heap.size w w':=by
 have HB:=Below.refl w.heap.size w
 have e1:((s.size - r4.size:Nat):Int) = (s.size:Int) - (r4.size:Int):=by omega
 have key:b0 = false ∨ (b0 = true ∧ b1 = false) ∨ (b0 = true ∧ b1 = true ∧ b4 = false) ∨ (b0 = true ∧ b1 = true ∧ b4 = true):=by cases b0 <;> cases b1 <;> cases b4 <;> simp
 rcases key with rfl | ⟨rfl,rfl⟩ | ⟨rfl,rfl,rfl⟩ | ⟨rfl,rfl,rfl⟩
 all_goals
  simp only [Bool.true_and,Bool.false_and,Bool.and_self,if_true,Bool.false_eq_true,if_false]
  go_enter Tryz.func110,Tryz.ntmps110
  go_wp2_with (first
   | (go_at_call_of 139 (Value.string s);refine (C0 _).mono ?_;clear C0;rintro e w1 ⟨rfl,rfl⟩)
   | (go_at_call_of 140 (Value.string r0);refine (S1 _ (hT.below HB hT.lt)).mono ?_;clear S1;rintro e w2 ⟨rfl,h2⟩;replace HB:=HB.trans (h2.mono HB.size))
   | (go_at_call_of 140 (Value.string r1);refine (S2 _ (hT.below HB hT.lt)).mono ?_;clear S2;rintro e w3 ⟨rfl,h3⟩;replace HB:=HB.trans (h3.mono HB.size))
   | (go_at_call_of 140 (Value.string r2);refine (S3 _ (hT.below HB hT.lt)).mono ?_;clear S3;rintro e w4 ⟨rfl,h4⟩;replace HB:=HB.trans (h4.mono HB.size))
   | (go_at_call 144;refine (T _).mono ?_;clear T;rintro e w5 ⟨rfl,h5⟩;replace HB:=HB.trans (h5.mono HB.size))
   | (go_at_call_of 139 (Value.string i);refine (C4 _).mono ?_;clear C4;rintro e w6 ⟨rfl,rfl⟩))
  go_ret
  first
   | exact ⟨rfl,HB⟩
   | exact ⟨by rw [e1];rfl,HB⟩
theorem declSize_any (s:ByteArray) (w:World) (hs:s.size < 4294967281) (hT:FoldTab w):Calls Tryz.prog 110 #[.string s] w fun e w'=>e = .returned (.int .i64 (declN s:Int)) ∧ Below w.heap.size w w':=by
 obtain ⟨h0,h1,h2,h3,h4⟩:=dr_size s
 exact decl_core s _ _ _ _ _ _ _ _ _ _ _ w h4 hs hT (fun w=>cp_any s bXML w) (fun w h=>set_any _ ent_ver verB ver_ok _ (cpB s bXML).1 w (by omega) h) (fun w h=>set_any _ ent_enc encB enc_ok _ (dr1 s).1 w (by omega) h) (fun w h=>set_any _ ent_sta staB sta_ok _ (dr2 s).1 w (by omega) h) (fun w=>tl_any _ w) (fun w=>cp_any _ bSHUT w)
end Go.Proofs.YtchfphakhmifmabGreatDoor

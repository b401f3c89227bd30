import Derived.Test.YtchfphakhmifmabGreatDoorXWr
namespace Go.Proofs.YtchfphakhmifmabGreatDoor
set_option maxRecDepth 1000000
set_option maxHeartbeats 16000000
open Go.ChangeShapes Go.WideShapes Go.ChangeAt Go.RowKit Go.Shelf Go.Lib
def shN (k:Nat):Bool:=decide (k = 0 ∨ k = 1 ∨ k = 4)
def shV (k:Nat):Bool:=decide (k = 1 ∨ k = 5 ∨ k = 6 ∨ k = 7)
def shT (k:Nat):Bool:=decide (k = 1 ∨ k = 2 ∨ k = 3)
structure ShpTab (w:World):Prop where
 n:∀ k,k < 8 → w.cell? ⟨0,3 * k,none⟩ = some (.bool (shN k))
 v:∀ k,k < 8 → w.cell? ⟨0,3 * k + 1,none⟩ = some (.bool (shV k))
 t:∀ k,k < 8 → w.cell? ⟨0,3 * k + 2,none⟩ = some (.bool (shT k))
theorem ShpTab.below {w w':World} {B:Nat} (h:ShpTab w) (hb:Below B w w') (hB:7 ≤ B):ShpTab w' :=
 have e:∀ o,w'.cell? ⟨0,o,none⟩ = w.cell? ⟨0,o,none⟩:=fun o=>hb.cell (p:=⟨0,o,none⟩) (Nat.lt_of_lt_of_le (show 0 < 7 by decide) hB)
 ⟨fun k hk=>(e _).trans (h.n k hk),fun k hk=>(e _).trans (h.v k hk),fun k hk=>(e _).trans (h.t k hk)⟩
def chkE (k:Nat) (nm vl:ByteArray):Nat :=
 if shN k = true ∧ xmlNameB nm = false then 42
 else if (faultN xmlB vl).1 = 0 then
  (if k = 6 ∧ comB vl = false then 43 else if k = 7 ∧ dclB vl = false then 44 else 0)
 else (faultN xmlB vl).1
theorem check_any (k:Nat) (nm vl:ByteArray) (p:Int) (w:World) (hk:k < 8) (hn:nm.size ≤ 16777216) (hv:vl.size ≤ 16777216) (hE:Env w) (hS:ShpTab w) (h7:7 ≤ w.heap.size) :
  Calls Tryz.prog 81 #[.agg #[.int .i64 (k:Int),.string nm,.string vl,.int .i64 p]] w fun e w'=>e = .returned (.int .i64 (chkE k nm vl:Int)) ∧ Below w.heap.size w w':=by
 have hb:=bel1 w (.cells #[.int .i64 (k:Int),.string nm,.string vl,.int .i64 p] 67)
 have HB:Hid (Below w.heap.size w _):=hb
 have hTK:=TK.of (heap_new w (.cells #[.int .i64 (k:Int),.string nm,.string vl,.int .i64 p] 67))
 have hTl:=hTK.lt
 have HT:Hid (TK (w.alloc (.cells #[.int .i64 (k:Int),.string nm,.string vl,.int .i64 p] 67)) w.heap.size (.int .i64 (k:Int)) (.string nm) (.string vl) (.int .i64 p)):=hTK
 have s0:=(hS.below hb h7).n k hk
 have cX:=fun w=>XMLName_any nm (by omega) w
 have cC:=fun w=>Chars_all vl w (by omega)
 have cM:=fun w h=>isComment_any vl w (by omega) h
 have cD:=fun w h=>isDeclaration_any vl w hv h
 have hE1:=hE.below hb h7
 unfold chkE
 generalize xmlNameB nm = xn at *
 generalize (faultN xmlB vl).1 = er at *
 generalize (faultN xmlB vl).2 = q at *
 generalize comB vl = cm at *
 generalize dclB vl = dc at *
 clear hTK hS
 have h0:er = 0 ∨ ¬ er = 0:=by omega
 have hk8:k = 0 ∨ k = 1 ∨ k = 2 ∨ k = 3 ∨ k = 4 ∨ k = 5 ∨ k = 6 ∨ k = 7:=by omega
 rcases hk8 with rfl | rfl | rfl | rfl | rfl | rfl | rfl | rfl
 ·have s0':(w.alloc (.cells #[.int .i64 0,.string nm,.string vl,.int .i64 p] 67)).cell? ⟨0,0,none⟩ = some (.bool true):=s0
  clear s0
  cases xn
  ·skip
   rw [show (if shN 0 = true ∧ false = false then 42 else if er = 0 then (if (0:Nat) = 6 ∧ cm = false then 43 else if (0:Nat) = 7 ∧ dc = false then 44 else 0) else er:Nat) = 42 by simp [shN]]
   go_enter Tryz.func81,Tryz.ntmps81
   go_wp2_with (first
    | (go_at_call 54;refine (cX _).mono ?_;rintro e w1 ⟨rfl,rfl⟩)
    | (go_at_call 39;refine (cC _).mono ?_;rintro e w2 ⟨rfl,hb2⟩;have t0:w2.cell? ⟨w.heap.size,0,none⟩ = some (.int .i64 0):=(hb2.cell (p:=⟨w.heap.size,0,none⟩) hTl).trans HT.out.c0;have t2:w2.cell? ⟨w.heap.size,2,none⟩ = some (.string vl):=(hb2.cell (p:=⟨w.heap.size,2,none⟩) hTl).trans HT.out.c2;have hE2:=hE1.below hb2 (by rw [World.size_alloc];omega))
    | (go_at_call 104;refine (cM _ hE2).mono ?_;rintro e w3 ⟨rfl,rfl⟩)
    | (go_at_call 105;refine (cD _ hE2).mono ?_;rintro e w4 ⟨rfl,hb4⟩))
   go_ret
   exact ⟨rfl,HB.out⟩
  ·skip
   rcases h0 with rfl | h0
   ·skip
    rw [show (if shN 0 = true ∧ true = false then 42 else if (0:Nat) = 0 then (if (0:Nat) = 6 ∧ cm = false then 43 else if (0:Nat) = 7 ∧ dc = false then 44 else 0) else 0:Nat) = 0 by simp [shN]]
    go_enter Tryz.func81,Tryz.ntmps81
    go_wp2_with (first
     | (go_at_call 54;refine (cX _).mono ?_;rintro e w1 ⟨rfl,rfl⟩)
     | (go_at_call 39;refine (cC _).mono ?_;rintro e w2 ⟨rfl,hb2⟩;have t0:w2.cell? ⟨w.heap.size,0,none⟩ = some (.int .i64 0):=(hb2.cell (p:=⟨w.heap.size,0,none⟩) hTl).trans HT.out.c0;have t2:w2.cell? ⟨w.heap.size,2,none⟩ = some (.string vl):=(hb2.cell (p:=⟨w.heap.size,2,none⟩) hTl).trans HT.out.c2;have hE2:=hE1.below hb2 (by rw [World.size_alloc];omega))
     | (go_at_call 104;refine (cM _ hE2).mono ?_;rintro e w3 ⟨rfl,rfl⟩)
     | (go_at_call 105;refine (cD _ hE2).mono ?_;rintro e w4 ⟨rfl,hb4⟩))
    go_ret
    exact ⟨rfl,HB.out.trans (hb2.mono HB.out.size)⟩
   ·have k1:((er:Int) == 0) = false:=beq_eq_false_iff_ne.2 (by omega)
    have k2:¬ (er:Int) = 0:=by omega
    rw [show (if shN 0 = true ∧ true = false then 42 else if er = 0 then (if (0:Nat) = 6 ∧ cm = false then 43 else if (0:Nat) = 7 ∧ dc = false then 44 else 0) else er:Nat) = er by simp [shN,h0]]
    go_enter Tryz.func81,Tryz.ntmps81
    go_wp2_with (first
     | (go_at_call 54;refine (cX _).mono ?_;rintro e w1 ⟨rfl,rfl⟩)
     | (go_at_call 39;refine (cC _).mono ?_;rintro e w2 ⟨rfl,hb2⟩;have t0:w2.cell? ⟨w.heap.size,0,none⟩ = some (.int .i64 0):=(hb2.cell (p:=⟨w.heap.size,0,none⟩) hTl).trans HT.out.c0;have t2:w2.cell? ⟨w.heap.size,2,none⟩ = some (.string vl):=(hb2.cell (p:=⟨w.heap.size,2,none⟩) hTl).trans HT.out.c2;have hE2:=hE1.below hb2 (by rw [World.size_alloc];omega))
     | (go_at_call 104;refine (cM _ hE2).mono ?_;rintro e w3 ⟨rfl,rfl⟩)
     | (go_at_call 105;refine (cD _ hE2).mono ?_;rintro e w4 ⟨rfl,hb4⟩))
    go_ret
    exact ⟨rfl,HB.out.trans (hb2.mono HB.out.size)⟩
 ·have s0':(w.alloc (.cells #[.int .i64 1,.string nm,.string vl,.int .i64 p] 67)).cell? ⟨0,3,none⟩ = some (.bool true):=s0
  clear s0
  cases xn
  ·skip
   rw [show (if shN 1 = true ∧ false = false then 42 else if er = 0 then (if (1:Nat) = 6 ∧ cm = false then 43 else if (1:Nat) = 7 ∧ dc = false then 44 else 0) else er:Nat) = 42 by simp [shN]]
   go_enter Tryz.func81,Tryz.ntmps81
   go_wp2_with (first
    | (go_at_call 54;refine (cX _).mono ?_;rintro e w1 ⟨rfl,rfl⟩)
    | (go_at_call 39;refine (cC _).mono ?_;rintro e w2 ⟨rfl,hb2⟩;have t0:w2.cell? ⟨w.heap.size,0,none⟩ = some (.int .i64 1):=(hb2.cell (p:=⟨w.heap.size,0,none⟩) hTl).trans HT.out.c0;have t2:w2.cell? ⟨w.heap.size,2,none⟩ = some (.string vl):=(hb2.cell (p:=⟨w.heap.size,2,none⟩) hTl).trans HT.out.c2;have hE2:=hE1.below hb2 (by rw [World.size_alloc];omega))
    | (go_at_call 104;refine (cM _ hE2).mono ?_;rintro e w3 ⟨rfl,rfl⟩)
    | (go_at_call 105;refine (cD _ hE2).mono ?_;rintro e w4 ⟨rfl,hb4⟩))
   go_ret
   exact ⟨rfl,HB.out⟩
  ·skip
   rcases h0 with rfl | h0
   ·skip
    rw [show (if shN 1 = true ∧ true = false then 42 else if (0:Nat) = 0 then (if (1:Nat) = 6 ∧ cm = false then 43 else if (1:Nat) = 7 ∧ dc = false then 44 else 0) else 0:Nat) = 0 by simp [shN]]
    go_enter Tryz.func81,Tryz.ntmps81
    go_wp2_with (first
     | (go_at_call 54;refine (cX _).mono ?_;rintro e w1 ⟨rfl,rfl⟩)
     | (go_at_call 39;refine (cC _).mono ?_;rintro e w2 ⟨rfl,hb2⟩;have t0:w2.cell? ⟨w.heap.size,0,none⟩ = some (.int .i64 1):=(hb2.cell (p:=⟨w.heap.size,0,none⟩) hTl).trans HT.out.c0;have t2:w2.cell? ⟨w.heap.size,2,none⟩ = some (.string vl):=(hb2.cell (p:=⟨w.heap.size,2,none⟩) hTl).trans HT.out.c2;have hE2:=hE1.below hb2 (by rw [World.size_alloc];omega))
     | (go_at_call 104;refine (cM _ hE2).mono ?_;rintro e w3 ⟨rfl,rfl⟩)
     | (go_at_call 105;refine (cD _ hE2).mono ?_;rintro e w4 ⟨rfl,hb4⟩))
    go_ret
    exact ⟨rfl,HB.out.trans (hb2.mono HB.out.size)⟩
   ·have k1:((er:Int) == 0) = false:=beq_eq_false_iff_ne.2 (by omega)
    have k2:¬ (er:Int) = 0:=by omega
    rw [show (if shN 1 = true ∧ true = false then 42 else if er = 0 then (if (1:Nat) = 6 ∧ cm = false then 43 else if (1:Nat) = 7 ∧ dc = false then 44 else 0) else er:Nat) = er by simp [shN,h0]]
    go_enter Tryz.func81,Tryz.ntmps81
    go_wp2_with (first
     | (go_at_call 54;refine (cX _).mono ?_;rintro e w1 ⟨rfl,rfl⟩)
     | (go_at_call 39;refine (cC _).mono ?_;rintro e w2 ⟨rfl,hb2⟩;have t0:w2.cell? ⟨w.heap.size,0,none⟩ = some (.int .i64 1):=(hb2.cell (p:=⟨w.heap.size,0,none⟩) hTl).trans HT.out.c0;have t2:w2.cell? ⟨w.heap.size,2,none⟩ = some (.string vl):=(hb2.cell (p:=⟨w.heap.size,2,none⟩) hTl).trans HT.out.c2;have hE2:=hE1.below hb2 (by rw [World.size_alloc];omega))
     | (go_at_call 104;refine (cM _ hE2).mono ?_;rintro e w3 ⟨rfl,rfl⟩)
     | (go_at_call 105;refine (cD _ hE2).mono ?_;rintro e w4 ⟨rfl,hb4⟩))
    go_ret
    exact ⟨rfl,HB.out.trans (hb2.mono HB.out.size)⟩
 ·have s0':(w.alloc (.cells #[.int .i64 2,.string nm,.string vl,.int .i64 p] 67)).cell? ⟨0,6,none⟩ = some (.bool false):=s0
  clear s0
  rcases h0 with rfl | h0
  ·skip
   rw [show (if shN 2 = true ∧ xn = false then 42 else if (0:Nat) = 0 then (if (2:Nat) = 6 ∧ cm = false then 43 else if (2:Nat) = 7 ∧ dc = false then 44 else 0) else 0:Nat) = 0 by simp [shN]]
   go_enter Tryz.func81,Tryz.ntmps81
   go_wp2_with (first
    | (go_at_call 54;refine (cX _).mono ?_;rintro e w1 ⟨rfl,rfl⟩)
    | (go_at_call 39;refine (cC _).mono ?_;rintro e w2 ⟨rfl,hb2⟩;have t0:w2.cell? ⟨w.heap.size,0,none⟩ = some (.int .i64 2):=(hb2.cell (p:=⟨w.heap.size,0,none⟩) hTl).trans HT.out.c0;have t2:w2.cell? ⟨w.heap.size,2,none⟩ = some (.string vl):=(hb2.cell (p:=⟨w.heap.size,2,none⟩) hTl).trans HT.out.c2;have hE2:=hE1.below hb2 (by rw [World.size_alloc];omega))
    | (go_at_call 104;refine (cM _ hE2).mono ?_;rintro e w3 ⟨rfl,rfl⟩)
    | (go_at_call 105;refine (cD _ hE2).mono ?_;rintro e w4 ⟨rfl,hb4⟩))
   go_ret
   exact ⟨rfl,HB.out.trans (hb2.mono HB.out.size)⟩
  ·have k1:((er:Int) == 0) = false:=beq_eq_false_iff_ne.2 (by omega)
   have k2:¬ (er:Int) = 0:=by omega
   rw [show (if shN 2 = true ∧ xn = false then 42 else if er = 0 then (if (2:Nat) = 6 ∧ cm = false then 43 else if (2:Nat) = 7 ∧ dc = false then 44 else 0) else er:Nat) = er by simp [shN,h0]]
   go_enter Tryz.func81,Tryz.ntmps81
   go_wp2_with (first
    | (go_at_call 54;refine (cX _).mono ?_;rintro e w1 ⟨rfl,rfl⟩)
    | (go_at_call 39;refine (cC _).mono ?_;rintro e w2 ⟨rfl,hb2⟩;have t0:w2.cell? ⟨w.heap.size,0,none⟩ = some (.int .i64 2):=(hb2.cell (p:=⟨w.heap.size,0,none⟩) hTl).trans HT.out.c0;have t2:w2.cell? ⟨w.heap.size,2,none⟩ = some (.string vl):=(hb2.cell (p:=⟨w.heap.size,2,none⟩) hTl).trans HT.out.c2;have hE2:=hE1.below hb2 (by rw [World.size_alloc];omega))
    | (go_at_call 104;refine (cM _ hE2).mono ?_;rintro e w3 ⟨rfl,rfl⟩)
    | (go_at_call 105;refine (cD _ hE2).mono ?_;rintro e w4 ⟨rfl,hb4⟩))
   go_ret
   exact ⟨rfl,HB.out.trans (hb2.mono HB.out.size)⟩
 ·have s0':(w.alloc (.cells #[.int .i64 3,.string nm,.string vl,.int .i64 p] 67)).cell? ⟨0,9,none⟩ = some (.bool false):=s0
  clear s0
  rcases h0 with rfl | h0
  ·skip
   rw [show (if shN 3 = true ∧ xn = false then 42 else if (0:Nat) = 0 then (if (3:Nat) = 6 ∧ cm = false then 43 else if (3:Nat) = 7 ∧ dc = false then 44 else 0) else 0:Nat) = 0 by simp [shN]]
   go_enter Tryz.func81,Tryz.ntmps81
   go_wp2_with (first
    | (go_at_call 54;refine (cX _).mono ?_;rintro e w1 ⟨rfl,rfl⟩)
    | (go_at_call 39;refine (cC _).mono ?_;rintro e w2 ⟨rfl,hb2⟩;have t0:w2.cell? ⟨w.heap.size,0,none⟩ = some (.int .i64 3):=(hb2.cell (p:=⟨w.heap.size,0,none⟩) hTl).trans HT.out.c0;have t2:w2.cell? ⟨w.heap.size,2,none⟩ = some (.string vl):=(hb2.cell (p:=⟨w.heap.size,2,none⟩) hTl).trans HT.out.c2;have hE2:=hE1.below hb2 (by rw [World.size_alloc];omega))
    | (go_at_call 104;refine (cM _ hE2).mono ?_;rintro e w3 ⟨rfl,rfl⟩)
    | (go_at_call 105;refine (cD _ hE2).mono ?_;rintro e w4 ⟨rfl,hb4⟩))
   go_ret
   exact ⟨rfl,HB.out.trans (hb2.mono HB.out.size)⟩
  ·have k1:((er:Int) == 0) = false:=beq_eq_false_iff_ne.2 (by omega)
   have k2:¬ (er:Int) = 0:=by omega
   rw [show (if shN 3 = true ∧ xn = false then 42 else if er = 0 then (if (3:Nat) = 6 ∧ cm = false then 43 else if (3:Nat) = 7 ∧ dc = false then 44 else 0) else er:Nat) = er by simp [shN,h0]]
   go_enter Tryz.func81,Tryz.ntmps81
   go_wp2_with (first
    | (go_at_call 54;refine (cX _).mono ?_;rintro e w1 ⟨rfl,rfl⟩)
    | (go_at_call 39;refine (cC _).mono ?_;rintro e w2 ⟨rfl,hb2⟩;have t0:w2.cell? ⟨w.heap.size,0,none⟩ = some (.int .i64 3):=(hb2.cell (p:=⟨w.heap.size,0,none⟩) hTl).trans HT.out.c0;have t2:w2.cell? ⟨w.heap.size,2,none⟩ = some (.string vl):=(hb2.cell (p:=⟨w.heap.size,2,none⟩) hTl).trans HT.out.c2;have hE2:=hE1.below hb2 (by rw [World.size_alloc];omega))
    | (go_at_call 104;refine (cM _ hE2).mono ?_;rintro e w3 ⟨rfl,rfl⟩)
    | (go_at_call 105;refine (cD _ hE2).mono ?_;rintro e w4 ⟨rfl,hb4⟩))
   go_ret
   exact ⟨rfl,HB.out.trans (hb2.mono HB.out.size)⟩
 ·have s0':(w.alloc (.cells #[.int .i64 4,.string nm,.string vl,.int .i64 p] 67)).cell? ⟨0,12,none⟩ = some (.bool true):=s0
  clear s0
  cases xn
  ·skip
   rw [show (if shN 4 = true ∧ false = false then 42 else if er = 0 then (if (4:Nat) = 6 ∧ cm = false then 43 else if (4:Nat) = 7 ∧ dc = false then 44 else 0) else er:Nat) = 42 by simp [shN]]
   go_enter Tryz.func81,Tryz.ntmps81
   go_wp2_with (first
    | (go_at_call 54;refine (cX _).mono ?_;rintro e w1 ⟨rfl,rfl⟩)
    | (go_at_call 39;refine (cC _).mono ?_;rintro e w2 ⟨rfl,hb2⟩;have t0:w2.cell? ⟨w.heap.size,0,none⟩ = some (.int .i64 4):=(hb2.cell (p:=⟨w.heap.size,0,none⟩) hTl).trans HT.out.c0;have t2:w2.cell? ⟨w.heap.size,2,none⟩ = some (.string vl):=(hb2.cell (p:=⟨w.heap.size,2,none⟩) hTl).trans HT.out.c2;have hE2:=hE1.below hb2 (by rw [World.size_alloc];omega))
    | (go_at_call 104;refine (cM _ hE2).mono ?_;rintro e w3 ⟨rfl,rfl⟩)
    | (go_at_call 105;refine (cD _ hE2).mono ?_;rintro e w4 ⟨rfl,hb4⟩))
   go_ret
   exact ⟨rfl,HB.out⟩
  ·skip
   rcases h0 with rfl | h0
   ·skip
    rw [show (if shN 4 = true ∧ true = false then 42 else if (0:Nat) = 0 then (if (4:Nat) = 6 ∧ cm = false then 43 else if (4:Nat) = 7 ∧ dc = false then 44 else 0) else 0:Nat) = 0 by simp [shN]]
    go_enter Tryz.func81,Tryz.ntmps81
    go_wp2_with (first
     | (go_at_call 54;refine (cX _).mono ?_;rintro e w1 ⟨rfl,rfl⟩)
     | (go_at_call 39;refine (cC _).mono ?_;rintro e w2 ⟨rfl,hb2⟩;have t0:w2.cell? ⟨w.heap.size,0,none⟩ = some (.int .i64 4):=(hb2.cell (p:=⟨w.heap.size,0,none⟩) hTl).trans HT.out.c0;have t2:w2.cell? ⟨w.heap.size,2,none⟩ = some (.string vl):=(hb2.cell (p:=⟨w.heap.size,2,none⟩) hTl).trans HT.out.c2;have hE2:=hE1.below hb2 (by rw [World.size_alloc];omega))
     | (go_at_call 104;refine (cM _ hE2).mono ?_;rintro e w3 ⟨rfl,rfl⟩)
     | (go_at_call 105;refine (cD _ hE2).mono ?_;rintro e w4 ⟨rfl,hb4⟩))
    go_ret
    exact ⟨rfl,HB.out.trans (hb2.mono HB.out.size)⟩
   ·have k1:((er:Int) == 0) = false:=beq_eq_false_iff_ne.2 (by omega)
    have k2:¬ (er:Int) = 0:=by omega
    rw [show (if shN 4 = true ∧ true = false then 42 else if er = 0 then (if (4:Nat) = 6 ∧ cm = false then 43 else if (4:Nat) = 7 ∧ dc = false then 44 else 0) else er:Nat) = er by simp [shN,h0]]
    go_enter Tryz.func81,Tryz.ntmps81
    go_wp2_with (first
     | (go_at_call 54;refine (cX _).mono ?_;rintro e w1 ⟨rfl,rfl⟩)
     | (go_at_call 39;refine (cC _).mono ?_;rintro e w2 ⟨rfl,hb2⟩;have t0:w2.cell? ⟨w.heap.size,0,none⟩ = some (.int .i64 4):=(hb2.cell (p:=⟨w.heap.size,0,none⟩) hTl).trans HT.out.c0;have t2:w2.cell? ⟨w.heap.size,2,none⟩ = some (.string vl):=(hb2.cell (p:=⟨w.heap.size,2,none⟩) hTl).trans HT.out.c2;have hE2:=hE1.below hb2 (by rw [World.size_alloc];omega))
     | (go_at_call 104;refine (cM _ hE2).mono ?_;rintro e w3 ⟨rfl,rfl⟩)
     | (go_at_call 105;refine (cD _ hE2).mono ?_;rintro e w4 ⟨rfl,hb4⟩))
    go_ret
    exact ⟨rfl,HB.out.trans (hb2.mono HB.out.size)⟩
 ·have s0':(w.alloc (.cells #[.int .i64 5,.string nm,.string vl,.int .i64 p] 67)).cell? ⟨0,15,none⟩ = some (.bool false):=s0
  clear s0
  rcases h0 with rfl | h0
  ·skip
   rw [show (if shN 5 = true ∧ xn = false then 42 else if (0:Nat) = 0 then (if (5:Nat) = 6 ∧ cm = false then 43 else if (5:Nat) = 7 ∧ dc = false then 44 else 0) else 0:Nat) = 0 by simp [shN]]
   go_enter Tryz.func81,Tryz.ntmps81
   go_wp2_with (first
    | (go_at_call 54;refine (cX _).mono ?_;rintro e w1 ⟨rfl,rfl⟩)
    | (go_at_call 39;refine (cC _).mono ?_;rintro e w2 ⟨rfl,hb2⟩;have t0:w2.cell? ⟨w.heap.size,0,none⟩ = some (.int .i64 5):=(hb2.cell (p:=⟨w.heap.size,0,none⟩) hTl).trans HT.out.c0;have t2:w2.cell? ⟨w.heap.size,2,none⟩ = some (.string vl):=(hb2.cell (p:=⟨w.heap.size,2,none⟩) hTl).trans HT.out.c2;have hE2:=hE1.below hb2 (by rw [World.size_alloc];omega))
    | (go_at_call 104;refine (cM _ hE2).mono ?_;rintro e w3 ⟨rfl,rfl⟩)
    | (go_at_call 105;refine (cD _ hE2).mono ?_;rintro e w4 ⟨rfl,hb4⟩))
   go_ret
   exact ⟨rfl,HB.out.trans (hb2.mono HB.out.size)⟩
  ·have k1:((er:Int) == 0) = false:=beq_eq_false_iff_ne.2 (by omega)
   have k2:¬ (er:Int) = 0:=by omega
   rw [show (if shN 5 = true ∧ xn = false then 42 else if er = 0 then (if (5:Nat) = 6 ∧ cm = false then 43 else if (5:Nat) = 7 ∧ dc = false then 44 else 0) else er:Nat) = er by simp [shN,h0]]
   go_enter Tryz.func81,Tryz.ntmps81
   go_wp2_with (first
    | (go_at_call 54;refine (cX _).mono ?_;rintro e w1 ⟨rfl,rfl⟩)
    | (go_at_call 39;refine (cC _).mono ?_;rintro e w2 ⟨rfl,hb2⟩;have t0:w2.cell? ⟨w.heap.size,0,none⟩ = some (.int .i64 5):=(hb2.cell (p:=⟨w.heap.size,0,none⟩) hTl).trans HT.out.c0;have t2:w2.cell? ⟨w.heap.size,2,none⟩ = some (.string vl):=(hb2.cell (p:=⟨w.heap.size,2,none⟩) hTl).trans HT.out.c2;have hE2:=hE1.below hb2 (by rw [World.size_alloc];omega))
    | (go_at_call 104;refine (cM _ hE2).mono ?_;rintro e w3 ⟨rfl,rfl⟩)
    | (go_at_call 105;refine (cD _ hE2).mono ?_;rintro e w4 ⟨rfl,hb4⟩))
   go_ret
   exact ⟨rfl,HB.out.trans (hb2.mono HB.out.size)⟩
 ·have s0':(w.alloc (.cells #[.int .i64 6,.string nm,.string vl,.int .i64 p] 67)).cell? ⟨0,18,none⟩ = some (.bool false):=s0
  clear s0
  rcases h0 with rfl | h0
  ·skip
   cases cm
   ·skip
    rw [show (if shN 6 = true ∧ xn = false then 42 else if (0:Nat) = 0 then (if (6:Nat) = 6 ∧ false = false then 43 else if (6:Nat) = 7 ∧ dc = false then 44 else 0) else 0:Nat) = 43 by simp [shN]]
    go_enter Tryz.func81,Tryz.ntmps81
    go_wp2_with (first
     | (go_at_call 54;refine (cX _).mono ?_;rintro e w1 ⟨rfl,rfl⟩)
     | (go_at_call 39;refine (cC _).mono ?_;rintro e w2 ⟨rfl,hb2⟩;have t0:w2.cell? ⟨w.heap.size,0,none⟩ = some (.int .i64 6):=(hb2.cell (p:=⟨w.heap.size,0,none⟩) hTl).trans HT.out.c0;have t2:w2.cell? ⟨w.heap.size,2,none⟩ = some (.string vl):=(hb2.cell (p:=⟨w.heap.size,2,none⟩) hTl).trans HT.out.c2;have hE2:=hE1.below hb2 (by rw [World.size_alloc];omega))
     | (go_at_call 104;refine (cM _ hE2).mono ?_;rintro e w3 ⟨rfl,rfl⟩)
     | (go_at_call 105;refine (cD _ hE2).mono ?_;rintro e w4 ⟨rfl,hb4⟩))
    go_ret
    exact ⟨rfl,HB.out.trans (hb2.mono HB.out.size)⟩
   ·skip
    rw [show (if shN 6 = true ∧ xn = false then 42 else if (0:Nat) = 0 then (if (6:Nat) = 6 ∧ true = false then 43 else if (6:Nat) = 7 ∧ dc = false then 44 else 0) else 0:Nat) = 0 by simp [shN]]
    go_enter Tryz.func81,Tryz.ntmps81
    go_wp2_with (first
     | (go_at_call 54;refine (cX _).mono ?_;rintro e w1 ⟨rfl,rfl⟩)
     | (go_at_call 39;refine (cC _).mono ?_;rintro e w2 ⟨rfl,hb2⟩;have t0:w2.cell? ⟨w.heap.size,0,none⟩ = some (.int .i64 6):=(hb2.cell (p:=⟨w.heap.size,0,none⟩) hTl).trans HT.out.c0;have t2:w2.cell? ⟨w.heap.size,2,none⟩ = some (.string vl):=(hb2.cell (p:=⟨w.heap.size,2,none⟩) hTl).trans HT.out.c2;have hE2:=hE1.below hb2 (by rw [World.size_alloc];omega))
     | (go_at_call 104;refine (cM _ hE2).mono ?_;rintro e w3 ⟨rfl,rfl⟩)
     | (go_at_call 105;refine (cD _ hE2).mono ?_;rintro e w4 ⟨rfl,hb4⟩))
    go_ret
    exact ⟨rfl,HB.out.trans (hb2.mono HB.out.size)⟩
  ·have k1:((er:Int) == 0) = false:=beq_eq_false_iff_ne.2 (by omega)
   have k2:¬ (er:Int) = 0:=by omega
   rw [show (if shN 6 = true ∧ xn = false then 42 else if er = 0 then (if (6:Nat) = 6 ∧ cm = false then 43 else if (6:Nat) = 7 ∧ dc = false then 44 else 0) else er:Nat) = er by simp [shN,h0]]
   go_enter Tryz.func81,Tryz.ntmps81
   go_wp2_with (first
    | (go_at_call 54;refine (cX _).mono ?_;rintro e w1 ⟨rfl,rfl⟩)
    | (go_at_call 39;refine (cC _).mono ?_;rintro e w2 ⟨rfl,hb2⟩;have t0:w2.cell? ⟨w.heap.size,0,none⟩ = some (.int .i64 6):=(hb2.cell (p:=⟨w.heap.size,0,none⟩) hTl).trans HT.out.c0;have t2:w2.cell? ⟨w.heap.size,2,none⟩ = some (.string vl):=(hb2.cell (p:=⟨w.heap.size,2,none⟩) hTl).trans HT.out.c2;have hE2:=hE1.below hb2 (by rw [World.size_alloc];omega))
    | (go_at_call 104;refine (cM _ hE2).mono ?_;rintro e w3 ⟨rfl,rfl⟩)
    | (go_at_call 105;refine (cD _ hE2).mono ?_;rintro e w4 ⟨rfl,hb4⟩))
   go_ret
   exact ⟨rfl,HB.out.trans (hb2.mono HB.out.size)⟩
 ·have s0':(w.alloc (.cells #[.int .i64 7,.string nm,.string vl,.int .i64 p] 67)).cell? ⟨0,21,none⟩ = some (.bool false):=s0
  clear s0
  rcases h0 with rfl | h0
  ·skip
   cases dc
   ·skip
    rw [show (if shN 7 = true ∧ xn = false then 42 else if (0:Nat) = 0 then (if (7:Nat) = 6 ∧ cm = false then 43 else if (7:Nat) = 7 ∧ false = false then 44 else 0) else 0:Nat) = 44 by simp [shN]]
    go_enter Tryz.func81,Tryz.ntmps81
    go_wp2_with (first
     | (go_at_call 54;refine (cX _).mono ?_;rintro e w1 ⟨rfl,rfl⟩)
     | (go_at_call 39;refine (cC _).mono ?_;rintro e w2 ⟨rfl,hb2⟩;have t0:w2.cell? ⟨w.heap.size,0,none⟩ = some (.int .i64 7):=(hb2.cell (p:=⟨w.heap.size,0,none⟩) hTl).trans HT.out.c0;have t2:w2.cell? ⟨w.heap.size,2,none⟩ = some (.string vl):=(hb2.cell (p:=⟨w.heap.size,2,none⟩) hTl).trans HT.out.c2;have hE2:=hE1.below hb2 (by rw [World.size_alloc];omega))
     | (go_at_call 104;refine (cM _ hE2).mono ?_;rintro e w3 ⟨rfl,rfl⟩)
     | (go_at_call 105;refine (cD _ hE2).mono ?_;rintro e w4 ⟨rfl,hb4⟩))
    go_ret
    exact ⟨rfl,(HB.out.trans (hb2.mono HB.out.size)).trans (hb4.mono (Nat.le_trans HB.out.size hb2.size))⟩
   ·skip
    rw [show (if shN 7 = true ∧ xn = false then 42 else if (0:Nat) = 0 then (if (7:Nat) = 6 ∧ cm = false then 43 else if (7:Nat) = 7 ∧ true = false then 44 else 0) else 0:Nat) = 0 by simp [shN]]
    go_enter Tryz.func81,Tryz.ntmps81
    go_wp2_with (first
     | (go_at_call 54;refine (cX _).mono ?_;rintro e w1 ⟨rfl,rfl⟩)
     | (go_at_call 39;refine (cC _).mono ?_;rintro e w2 ⟨rfl,hb2⟩;have t0:w2.cell? ⟨w.heap.size,0,none⟩ = some (.int .i64 7):=(hb2.cell (p:=⟨w.heap.size,0,none⟩) hTl).trans HT.out.c0;have t2:w2.cell? ⟨w.heap.size,2,none⟩ = some (.string vl):=(hb2.cell (p:=⟨w.heap.size,2,none⟩) hTl).trans HT.out.c2;have hE2:=hE1.below hb2 (by rw [World.size_alloc];omega))
     | (go_at_call 104;refine (cM _ hE2).mono ?_;rintro e w3 ⟨rfl,rfl⟩)
     | (go_at_call 105;refine (cD _ hE2).mono ?_;rintro e w4 ⟨rfl,hb4⟩))
    go_ret
    exact ⟨rfl,(HB.out.trans (hb2.mono HB.out.size)).trans (hb4.mono (Nat.le_trans HB.out.size hb2.size))⟩
  ·have k1:((er:Int) == 0) = false:=beq_eq_false_iff_ne.2 (by omega)
   have k2:¬ (er:Int) = 0:=by omega
   rw [show (if shN 7 = true ∧ xn = false then 42 else if er = 0 then (if (7:Nat) = 6 ∧ cm = false then 43 else if (7:Nat) = 7 ∧ dc = false then 44 else 0) else er:Nat) = er by simp [shN,h0]]
   go_enter Tryz.func81,Tryz.ntmps81
   go_wp2_with (first
    | (go_at_call 54;refine (cX _).mono ?_;rintro e w1 ⟨rfl,rfl⟩)
    | (go_at_call 39;refine (cC _).mono ?_;rintro e w2 ⟨rfl,hb2⟩;have t0:w2.cell? ⟨w.heap.size,0,none⟩ = some (.int .i64 7):=(hb2.cell (p:=⟨w.heap.size,0,none⟩) hTl).trans HT.out.c0;have t2:w2.cell? ⟨w.heap.size,2,none⟩ = some (.string vl):=(hb2.cell (p:=⟨w.heap.size,2,none⟩) hTl).trans HT.out.c2;have hE2:=hE1.below hb2 (by rw [World.size_alloc];omega))
    | (go_at_call 104;refine (cM _ hE2).mono ?_;rintro e w3 ⟨rfl,rfl⟩)
    | (go_at_call 105;refine (cD _ hE2).mono ?_;rintro e w4 ⟨rfl,hb4⟩))
   go_ret
   exact ⟨rfl,HB.out.trans (hb2.mono HB.out.size)⟩
end Go.Proofs.YtchfphakhmifmabGreatDoor

import Derived.Test.YtchfphakhmifmabGreatDoorXNm
import Derived.Test.YtchfphakhmifmabGreatDoorEsc
namespace Go.Proofs.YtchfphakhmifmabGreatDoor
set_option maxRecDepth 1000000
set_option maxHeartbeats 16000000
open Go.ChangeShapes Go.WideShapes Go.ChangeAt Go.RowKit
theorem rdigit (c:Nat) (w:World):Calls Tryz.prog 190 #[.int .u8 (c:Int)] w fun e w'=>e = .returned (.bool (ndig c)) ∧ w' = w:=by
 unfold ndig
 by_cases h:48 ≤ c
 ·go_enter Tryz.func190,Tryz.ntmps190
  go_wp2
  go_ret
  exact ⟨nret (by simp [h];omega),rfl⟩
 ·have d:decide (48 ≤ (c:Int)) = false:=by simp;omega
  go_enter Tryz.func190,Tryz.ntmps190
  go_wp2
  go_ret
  exact ⟨nret (by simp;omega),rfl⟩
theorem rletter (c:Nat) (w:World):Calls Tryz.prog 189 #[.int .u8 (c:Int)] w fun e w'=>e = .returned (.bool (nlet c)) ∧ w' = w:=by
 have:(c < 65) ∨ (65 ≤ c ∧ c ≤ 90) ∨ (90 < c ∧ c < 97) ∨ (97 ≤ c ∧ c ≤ 122) ∨ 122 < c:=by omega
 rcases this with h | h | h | h | h
 ·have d1:decide (65 ≤ (c:Int)) = false:=by simp;omega
  have d3:decide (97 ≤ (c:Int)) = false:=by simp;omega
  have g:nlet c = false:=by unfold nlet;simp;omega
  rw [g]
  go_enter Tryz.func189,Tryz.ntmps189
  go_wp2
  go_ret
  exact ⟨rfl,rfl⟩
 ·have d1:decide (65 ≤ (c:Int)) = true:=by simp;omega
  have d2:decide ((c:Int) ≤ 90) = true:=by simp;omega
  have d3:decide (97 ≤ (c:Int)) = false:=by simp;omega
  have g:nlet c = true:=by unfold nlet;simp;omega
  rw [g]
  go_enter Tryz.func189,Tryz.ntmps189
  go_wp2
  go_ret
  exact ⟨rfl,rfl⟩
 ·have d1:decide (65 ≤ (c:Int)) = true:=by simp;omega
  have d2:decide ((c:Int) ≤ 90) = false:=by simp;omega
  have d3:decide (97 ≤ (c:Int)) = false:=by simp;omega
  have g:nlet c = false:=by unfold nlet;simp;omega
  rw [g]
  go_enter Tryz.func189,Tryz.ntmps189
  go_wp2
  go_ret
  exact ⟨rfl,rfl⟩
 ·have d3:decide (97 ≤ (c:Int)) = true:=by simp;omega
  have d4:decide ((c:Int) ≤ 122) = true:=by simp;omega
  have g:nlet c = true:=by unfold nlet;simp;omega
  rw [g]
  go_enter Tryz.func189,Tryz.ntmps189
  go_wp2
  go_ret
  exact ⟨rfl,rfl⟩
 ·have d1:decide (65 ≤ (c:Int)) = true:=by simp;omega
  have d2:decide ((c:Int) ≤ 90) = false:=by simp;omega
  have d3:decide (97 ≤ (c:Int)) = true:=by simp;omega
  have d4:decide ((c:Int) ≤ 122) = false:=by simp;omega
  have g:nlet c = false:=by unfold nlet;simp;omega
  rw [g]
  go_enter Tryz.func189,Tryz.ntmps189
  go_wp2
  go_ret
  exact ⟨rfl,rfl⟩
theorem rblank (c:Nat) (w:World):Calls Tryz.prog 78 #[.int .u8 (c:Int)] w fun e w'=>e = .returned (.bool (blC c)) ∧ w' = w:=by
 have:(c = 9) ∨ (c = 10) ∨ (c = 13) ∨ (c = 32) ∨ (¬ c = 9 ∧ ¬ c = 10 ∧ ¬ c = 13 ∧ ¬ c = 32):=by omega
 rcases this with rfl | rfl | rfl | rfl | h
 ·go_enter Tryz.func78,Tryz.ntmps78
  go_wp2
  go_ret
  exact ⟨rfl,rfl⟩
 ·go_enter Tryz.func78,Tryz.ntmps78
  go_wp2
  go_ret
  exact ⟨rfl,rfl⟩
 ·go_enter Tryz.func78,Tryz.ntmps78
  go_wp2
  go_ret
  exact ⟨rfl,rfl⟩
 ·go_enter Tryz.func78,Tryz.ntmps78
  go_wp2
  go_ret
  exact ⟨rfl,rfl⟩
 ·have e9:((c:Int) == 9) = false:=by simp;omega
  have e10:((c:Int) == 10) = false:=by simp;omega
  have e13:((c:Int) == 13) = false:=by simp;omega
  have e32:((c:Int) == 32) = false:=by simp;omega
  have g:blC c = false:=by unfold blC;simp;omega
  rw [g]
  go_enter Tryz.func78,Tryz.ntmps78
  go_wp2
  go_ret
  exact ⟨rfl,rfl⟩
def wrI (c:Nat):Int:=match worth c with | some d=>(d:Int) | none=>-1
def wrD (c:Nat):Int:=if 48 ≤ c ∧ c ≤ 57 then (c:Int) - 48 else -1
theorem rworth (c:Nat) (hc:c < 256) (w:World):Calls Tryz.prog 176 #[.int .u8 (c:Int),.bool true] w fun e w'=>e = .returned (.int .i64 (wrI c)) ∧ w' = w:=by
 have:(c < 48) ∨ (48 ≤ c ∧ c ≤ 57) ∨ (58 ≤ c ∧ c ≤ 64) ∨ (65 ≤ c ∧ c ≤ 70) ∨ (71 ≤ c ∧ c ≤ 96) ∨ (97 ≤ c ∧ c ≤ 102) ∨ 103 ≤ c:=by omega
 rcases this with h | h | h | h | h | h | h
 ·have g:wrI c = -1:=by unfold wrI worth;rw [if_neg (by omega),if_neg (by omega),if_neg (by omega)]
  rw [g]
  have d1:decide (48 ≤ (c:Int)) = false:=by simp;omega
  have d3:decide (97 ≤ (c:Int)) = false:=by simp;omega
  have d5:decide (65 ≤ (c:Int)) = false:=by simp;omega
  clear g h
  go_enter Tryz.func176,Tryz.ntmps176
  go_wp2
  go_ret
  exact ⟨rfl,rfl⟩
 ·have g:wrI c = (c:Int) - 48:=by unfold wrI worth;rw [if_pos (by omega)];simp only;omega
  rw [g]
  have d1:decide (48 ≤ (c:Int)) = true:=by simp;omega
  have d2:decide ((c:Int) ≤ 57) = true:=by simp;omega
  have sb:IntKind.u8.wrap ((c:Int) - 48) = (c:Int) - 48:=by rw [IntKind.wrap_u8'];omega
  clear g
  go_enter Tryz.func176,Tryz.ntmps176
  go_wp2
  go_ret
  exact ⟨rfl,rfl⟩
 ·have g:wrI c = -1:=by unfold wrI worth;rw [if_neg (by omega),if_neg (by omega),if_neg (by omega)]
  rw [g]
  have d1:decide (48 ≤ (c:Int)) = true:=by simp;omega
  have d2:decide ((c:Int) ≤ 57) = false:=by simp;omega
  have d3:decide (97 ≤ (c:Int)) = false:=by simp;omega
  have d5:decide (65 ≤ (c:Int)) = false:=by simp;omega
  clear g h
  go_enter Tryz.func176,Tryz.ntmps176
  go_wp2
  go_ret
  exact ⟨rfl,rfl⟩
 ·have g:wrI c = (c:Int) - 65 + 10:=by unfold wrI worth;rw [if_neg (by omega),if_neg (by omega),if_pos (by omega)];simp only;omega
  rw [g]
  have d1:decide (48 ≤ (c:Int)) = true:=by simp;omega
  have d2:decide ((c:Int) ≤ 57) = false:=by simp;omega
  have d3:decide (97 ≤ (c:Int)) = false:=by simp;omega
  have d5:decide (65 ≤ (c:Int)) = true:=by simp;omega
  have d6:decide ((c:Int) ≤ 70) = true:=by simp;omega
  clear g
  go_enter Tryz.func176,Tryz.ntmps176
  go_wp2
  go_ret
  exact ⟨rfl,rfl⟩
 ·have g:wrI c = -1:=by unfold wrI worth;rw [if_neg (by omega),if_neg (by omega),if_neg (by omega)]
  rw [g]
  have d1:decide (48 ≤ (c:Int)) = true:=by simp;omega
  have d2:decide ((c:Int) ≤ 57) = false:=by simp;omega
  have d3:decide (97 ≤ (c:Int)) = false:=by simp;omega
  have d5:decide (65 ≤ (c:Int)) = true:=by simp;omega
  have d6:decide ((c:Int) ≤ 70) = false:=by simp;omega
  clear g h
  go_enter Tryz.func176,Tryz.ntmps176
  go_wp2
  go_ret
  exact ⟨rfl,rfl⟩
 ·have g:wrI c = (c:Int) - 97 + 10:=by unfold wrI worth;rw [if_neg (by omega),if_pos (by omega)];simp only;omega
  rw [g]
  have d1:decide (48 ≤ (c:Int)) = true:=by simp;omega
  have d2:decide ((c:Int) ≤ 57) = false:=by simp;omega
  have d3:decide (97 ≤ (c:Int)) = true:=by simp;omega
  have d4:decide ((c:Int) ≤ 102) = true:=by simp;omega
  clear g
  go_enter Tryz.func176,Tryz.ntmps176
  go_wp2
  go_ret
  exact ⟨rfl,rfl⟩
 ·have g:wrI c = -1:=by unfold wrI worth;rw [if_neg (by omega),if_neg (by omega),if_neg (by omega)]
  rw [g]
  have d1:decide (48 ≤ (c:Int)) = true:=by simp;omega
  have d2:decide ((c:Int) ≤ 57) = false:=by simp;omega
  have d3:decide (97 ≤ (c:Int)) = true:=by simp;omega
  have d4:decide ((c:Int) ≤ 102) = false:=by simp;omega
  have d5:decide (65 ≤ (c:Int)) = true:=by simp;omega
  have d6:decide ((c:Int) ≤ 70) = false:=by simp;omega
  clear g h
  go_enter Tryz.func176,Tryz.ntmps176
  go_wp2
  go_ret
  exact ⟨rfl,rfl⟩
theorem rworthD (c:Nat) (w:World):Calls Tryz.prog 176 #[.int .u8 (c:Int),.bool false] w fun e w'=>e = .returned (.int .i64 (wrD c)) ∧ w' = w:=by
 have:(c < 48) ∨ (48 ≤ c ∧ c ≤ 57) ∨ 58 ≤ c:=by omega
 rcases this with h | h | h
 ·have g:wrD c = -1:=by unfold wrD;rw [if_neg (by omega)]
  rw [g]
  have d1:decide (48 ≤ (c:Int)) = false:=by simp;omega
  clear g h
  go_enter Tryz.func176,Tryz.ntmps176
  go_wp2
  go_ret
  exact ⟨rfl,rfl⟩
 ·have g:wrD c = (c:Int) - 48:=by unfold wrD;rw [if_pos h]
  rw [g]
  have d1:decide (48 ≤ (c:Int)) = true:=by simp;omega
  have d2:decide ((c:Int) ≤ 57) = true:=by simp;omega
  have sb:IntKind.u8.wrap ((c:Int) - 48) = (c:Int) - 48:=by rw [IntKind.wrap_u8'];omega
  clear g
  go_enter Tryz.func176,Tryz.ntmps176
  go_wp2
  go_ret
  exact ⟨rfl,rfl⟩
 ·have g:wrD c = -1:=by unfold wrD;rw [if_neg (by omega)]
  rw [g]
  have d1:decide (48 ≤ (c:Int)) = true:=by simp;omega
  have d2:decide ((c:Int) ≤ 57) = false:=by simp;omega
  clear g h
  go_enter Tryz.func176,Tryz.ntmps176
  go_wp2
  go_ret
  exact ⟨rfl,rfl⟩
theorem rxml (n:Int) (w:World):Calls Tryz.prog 94 #[.int .i64 n] w fun e w'=>e = .returned (.bool (xmlB n)) ∧ w' = w:=by
 unfold xmlB
 have:n = 9 ∨ n = 10 ∨ n = 13 ∨ (¬ n = 9 ∧ ¬ n = 10 ∧ ¬ n = 13):=by omega
 rcases this with rfl | rfl | rfl | ⟨h1,h2,h3⟩
 ·go_enter Tryz.func94,Tryz.ntmps94
  go_wp2
  go_ret
  exact ⟨rfl,rfl⟩
 ·go_enter Tryz.func94,Tryz.ntmps94
  go_wp2
  go_ret
  exact ⟨rfl,rfl⟩
 ·go_enter Tryz.func94,Tryz.ntmps94
  go_wp2
  go_ret
  exact ⟨rfl,rfl⟩
 ·have e9:(n == 9) = false:=by simp [h1]
  have e10:(n == 10) = false:=by simp [h2]
  have e13:(n == 13) = false:=by simp [h3]
  have f9:decide (n = 9) = false:=by simp [h1]
  have f10:decide (n = 10) = false:=by simp [h2]
  have f13:decide (n = 13) = false:=by simp [h3]
  rw [f9,f10,f13]
  clear h1 h2 h3 f9 f10 f13
  have:n < 32 ∨ (32 ≤ n ∧ n ≤ 55295) ∨ (55296 ≤ n ∧ n < 57344) ∨ (57344 ≤ n ∧ n ≤ 65533) ∨ (65534 ≤ n ∧ n < 65536) ∨ (65536 ≤ n ∧ n ≤ 1114111) ∨ 1114111 < n:=by omega
  have q:∃ a b c d e f:Bool,decide (32 ≤ n) = a ∧ decide (n ≤ 55295) = b ∧ decide (57344 ≤ n) = c ∧ decide (n ≤ 65533) = d ∧ decide (65536 ≤ n) = e ∧ decide (n ≤ 1114111) = f:=⟨_,_,_,_,_,_,rfl,rfl,rfl,rfl,rfl,rfl⟩
  obtain ⟨a,b,c,d,e,f,ha,hb,hc,hd,he,hf⟩:=q
  rw [ha,hb,hc,hd,he,hf]
  clear this
  cases a <;> cases b <;> cases c <;> cases d <;> cases e <;> cases f <;>
  (go_enter Tryz.func94,Tryz.ntmps94
   go_wp2
   go_ret
   exact ⟨rfl,rfl⟩)
theorem strNums_eq (l:List Int) (M:List Nat) (h:l = M.map Int.ofNat):strOfNums l = sOf M:=by
 subst h
 unfold strOfNums sOf
 simp
theorem convN (W:World) (l:List Int) (n:Nat) (hn:l.length = n) (g:Nat) (hg:W.heap.size = g) (a:Array Value) (ha:a = (l.map (Value.int .u8)).toArray) :
  (convert 59 9 (.slice (some ⟨g,0,none⟩) n n)).run Tryz.prog (W.alloc (.cells a 5)) = .ok (.string (strOfNums l)) (W.alloc (.cells a 5)):=by
 subst hg ha
 refine run_convert_bytes_arg _ 59 5 Tryz.underlying59 Tryz.underlying5 W.heap.size 0 n n l hn (fun i hi=>?_) 9 Tryz.underlying9
 have:(W.alloc (.cells (l.map (Value.int .u8)).toArray 5)).heap[W.heap.size]? = some (.cells (l.map (Value.int .u8)).toArray 5):=heap_alloc_new W _
 rw [Nat.zero_add]
 unfold World.cell?
 rw [this]
 simp [List.getElem?_eq_getElem (show i < l.length by omega)]
theorem conv1 (W:World) (g:Nat) (x:Int) (hg:W.heap.size = g):(convert 59 9 (.slice (some ⟨g,0,none⟩) 1 1)).run Tryz.prog (W.alloc (.cells #[.int .u8 x] 5)) = .ok (.string (strOfNums [x])) (W.alloc (.cells #[.int .u8 x] 5)):=convN W [x] 1 rfl g hg _ rfl
theorem conv2 (W:World) (g:Nat) (x y:Int) (hg:W.heap.size = g):(convert 59 9 (.slice (some ⟨g,0,none⟩) 2 2)).run Tryz.prog (W.alloc (.cells #[.int .u8 x,.int .u8 y] 5)) = .ok (.string (strOfNums [x,y])) (W.alloc (.cells #[.int .u8 x,.int .u8 y] 5)):=convN W [x,y] 2 rfl g hg _ rfl
theorem conv3 (W:World) (g:Nat) (x y z:Int) (hg:W.heap.size = g):(convert 59 9 (.slice (some ⟨g,0,none⟩) 3 3)).run Tryz.prog (W.alloc (.cells #[.int .u8 x,.int .u8 y,.int .u8 z] 5)) = .ok (.string (strOfNums [x,y,z])) (W.alloc (.cells #[.int .u8 x,.int .u8 y,.int .u8 z] 5)):=convN W [x,y,z] 3 rfl g hg _ rfl
theorem conv4 (W:World) (g:Nat) (x y z t:Int) (hg:W.heap.size = g):(convert 59 9 (.slice (some ⟨g,0,none⟩) 4 4)).run Tryz.prog (W.alloc (.cells #[.int .u8 x,.int .u8 y,.int .u8 z,.int .u8 t] 5)) = .ok (.string (strOfNums [x,y,z,t])) (W.alloc (.cells #[.int .u8 x,.int .u8 y,.int .u8 z,.int .u8 t] 5)):=convN W [x,y,z,t] 4 rfl g hg _ rfl
theorem rbel (w:World) (o:Obj):Below w.heap.size w (w.alloc o):=(Below.refl _ _).alloc (Nat.le_refl _) _
abbrev goodI (n:Int):Prop:=0 ≤ n ∧ n ≤ 1114111 ∧ (n < 55296 ∨ 57343 < n)
def encI (n:Int):List Nat:=if goodI n then encN n.toNat else []
theorem rsret {a b:ByteArray} (h:a = b):Ending.returned (.string a) = .returned (.string b):=by rw [h]
theorem encI_good (n:Int) (h0:0 ≤ n) (h1:n ≤ 1114111) (h2:n < 55296 ∨ 57343 < n):encI n = encN n.toNat:=by unfold encI;rw [if_pos ⟨h0,h1,h2⟩]
theorem encI_bad (n:Int) (h:n < 0 ∨ 1114111 < n ∨ (55296 ≤ n ∧ n ≤ 57343)):encI n = []:=by
 unfold encI
 rw [if_neg (by unfold goodI;omega)]
theorem cast_ofNat (a:Nat):Int.ofNat a = (a:Int):=rfl
theorem enc1 (n:Int) (h:0 ≤ n ∧ n < 128):strOfNums [n] = sOf (encI n):=by
 rw [encI_good n h.1 (by omega) (by omega)]
 unfold encN
 rw [if_pos (by omega)]
 refine strNums_eq _ _ ?_
 simp only [List.map_cons,List.map_nil,cast_ofNat]
 rw [show ((n.toNat:Nat):Int) = n by omega]
theorem enc2 (n:Int) (h:128 ≤ n ∧ n < 2048):strOfNums [192 + n / 64,128 + n % 64] = sOf (encI n):=by
 rw [encI_good n (by omega) (by omega) (by omega)]
 unfold encN
 rw [if_neg (by omega),if_pos (by omega)]
 refine strNums_eq _ _ ?_
 simp only [List.map_cons,List.map_nil,cast_ofNat]
 rw [show ((192 + n.toNat / 64:Nat):Int) = 192 + n / 64 by omega,show ((128 + n.toNat % 64:Nat):Int) = 128 + n % 64 by omega]
theorem enc3 (n:Int) (h:2048 ≤ n ∧ n < 65536) (h2:n < 55296 ∨ 57343 < n):strOfNums [224 + n / 4096,128 + n / 64 % 64,128 + n % 64] = sOf (encI n):=by
 rw [encI_good n (by omega) (by omega) h2]
 unfold encN
 rw [if_neg (by omega),if_neg (by omega),if_pos (by omega)]
 refine strNums_eq _ _ ?_
 simp only [List.map_cons,List.map_nil,cast_ofNat]
 rw [show ((224 + n.toNat / 4096:Nat):Int) = 224 + n / 4096 by omega,show ((128 + n.toNat / 64 % 64:Nat):Int) = 128 + n / 64 % 64 by omega,show ((128 + n.toNat % 64:Nat):Int) = 128 + n % 64 by omega]
theorem enc4 (n:Int) (h:65536 ≤ n ∧ n ≤ 1114111):strOfNums [240 + n / 262144,128 + n / 4096 % 64,128 + n / 64 % 64,128 + n % 64] = sOf (encI n):=by
 rw [encI_good n (by omega) (by omega) (by omega)]
 unfold encN
 rw [if_neg (by omega),if_neg (by omega),if_neg (by omega)]
 refine strNums_eq _ _ ?_
 simp only [List.map_cons,List.map_nil,cast_ofNat]
 rw [show ((240 + n.toNat / 262144:Nat):Int) = 240 + n / 262144 by omega,show ((128 + n.toNat / 4096 % 64:Nat):Int) = 128 + n / 4096 % 64 by omega,show ((128 + n.toNat / 64 % 64:Nat):Int) = 128 + n / 64 % 64 by omega,show ((128 + n.toNat % 64:Nat):Int) = 128 + n % 64 by omega]
theorem enc0 (n:Int) (h:n < 0 ∨ 1114111 < n ∨ (55296 ≤ n ∧ n ≤ 57343)):(⟨#[]⟩:ByteArray) = sOf (encI n):=by rw [encI_bad n h];rfl
theorem rEncode (n:Int) (w:World):Calls Tryz.prog 125 #[.int .i64 n] w fun e w'=>e = .returned (.string (sOf (encI n))) ∧ Below w.heap.size w w':=by
 have c1:=conv1
 have c2:=conv2
 have c3:=conv3
 have c4:=conv4
 have:n < 0 ∨ 1114111 < n ∨ (55296 ≤ n ∧ n ≤ 57343) ∨ (0 ≤ n ∧ n < 128) ∨ (128 ≤ n ∧ n < 2048) ∨ (2048 ≤ n ∧ n < 55296) ∨ (57344 ≤ n ∧ n < 65536) ∨ (65536 ≤ n ∧ n ≤ 1114111):=by omega
 rcases this with h | h | h | h | h | h | h | h
 ·have d0:decide (n < 0) = true:=by simp;omega
  go_enter Tryz.func125,Tryz.ntmps125
  go_wp2
  go_ret
  exact ⟨rsret (enc0 n (Or.inl h)),Below.refl _ _⟩
 ·have d0:decide (n < 0) = false:=by simp;omega
  have d1:decide (1114111 < n) = true:=by simp;omega
  go_enter Tryz.func125,Tryz.ntmps125
  go_wp2
  go_ret
  exact ⟨rsret (enc0 n (Or.inr (Or.inl h))),Below.refl _ _⟩
 ·have d0:decide (n < 0) = false:=by simp;omega
  have d1:decide (1114111 < n) = false:=by simp;omega
  have d2:decide (55296 ≤ n) = true:=by simp;omega
  have d3:decide (n ≤ 57343) = true:=by simp;omega
  go_enter Tryz.func125,Tryz.ntmps125
  go_wp2
  go_ret
  exact ⟨rsret (enc0 n (Or.inr (Or.inr h))),Below.refl _ _⟩
 ·have d0:decide (n < 0) = false:=by simp;omega
  have d1:decide (1114111 < n) = false:=by simp;omega
  have d2:decide (55296 ≤ n) = false:=by simp;omega
  go_enter Tryz.func125,Tryz.ntmps125
  go_wp2
  go_ret
  exact ⟨rsret (enc1 n h),rbel _ _⟩
 ·have d0:decide (n < 0) = false:=by simp;omega
  have d1:decide (1114111 < n) = false:=by simp;omega
  have d2:decide (55296 ≤ n) = false:=by simp;omega
  go_enter Tryz.func125,Tryz.ntmps125
  go_wp2
  go_ret
  exact ⟨rsret (enc2 n h),rbel _ _⟩
 ·have d0:decide (n < 0) = false:=by simp;omega
  have d1:decide (1114111 < n) = false:=by simp;omega
  have d2:decide (55296 ≤ n) = false:=by simp;omega
  go_enter Tryz.func125,Tryz.ntmps125
  go_wp2
  go_ret
  exact ⟨rsret (enc3 n (by omega) (by omega)),rbel _ _⟩
 ·have d0:decide (n < 0) = false:=by simp;omega
  have d1:decide (1114111 < n) = false:=by simp;omega
  have d2:decide (55296 ≤ n) = true:=by simp;omega
  have d3:decide (n ≤ 57343) = false:=by simp;omega
  go_enter Tryz.func125,Tryz.ntmps125
  go_wp2
  go_ret
  exact ⟨rsret (enc3 n (by omega) (by omega)),rbel _ _⟩
 ·have d0:decide (n < 0) = false:=by simp;omega
  have d1:decide (1114111 < n) = false:=by simp;omega
  have d2:decide (55296 ≤ n) = true:=by simp;omega
  have d3:decide (n ≤ 57343) = false:=by simp;omega
  go_enter Tryz.func125,Tryz.ntmps125
  go_wp2
  go_ret
  exact ⟨rsret (enc4 n h),rbel _ _⟩
theorem str_eq (a b:ByteArray):(a.toList == b.toList) = decide (a = b):=by
 rw [ByteArray.toList_eq,ByteArray.toList_eq]
 by_cases h:a = b
 ·subst h;simp
 ·rw [decide_eq_false h,beq_eq_false_iff_ne]
  exact fun e=>h (ba_ext e)
theorem rbegins (s t:ByteArray) (w:World):Calls Tryz.prog 126 #[.string s,.string t] w fun e w'=>e = .returned (.bool (decide (t.size ≤ s.size) && decide (s.extract 0 t.size = t))) ∧ w' = w:=by
 by_cases h:t.size ≤ s.size
 ·have d:decide ((t.size:Int) ≤ (s.size:Int)) = true:=by simp;omega
  rw [decide_eq_true h,Bool.true_and]
  go_enter Tryz.func126,Tryz.ntmps126
  go_wp2
  go_ret
  exact ⟨nret (str_eq _ _),rfl⟩
 ·have d:decide ((t.size:Int) ≤ (s.size:Int)) = false:=by simp;omega
  rw [decide_eq_false h,Bool.false_and]
  go_enter Tryz.func126,Tryz.ntmps126
  go_wp2
  go_ret
  exact ⟨rfl,rfl⟩
def inSet (S:ByteArray) (c k:Nat):Bool:=(List.range k).any fun j=>decide (ch S j = c)
theorem inSet_succ (S:ByteArray) (c k:Nat):inSet S c (k + 1) = (inSet S c k || decide (ch S k = c)):=by
 unfold inSet
 rw [List.range_succ,List.any_append]
 simp
def madeC (F M:ByteArray) (i c:Nat):Bool:=(nlet c || (decide (0 < i) && ndig c)) || inSet (if i = 0 then F else M) c (if i = 0 then F else M).size
def madeB (s F M:ByteArray):Bool:=decide (0 < s.size ∧ ∀ i,i < s.size → madeC F M i (ch s i) = true)
theorem rmade (s F M:ByteArray) (hs:s.size ≤ 9223372036854775806) (hF:F.size ≤ 100) (hM:M.size ≤ 100) (w:World):Calls Tryz.prog 178 #[.string s,.string F,.string M] w fun e w'=>e = .returned (.bool (madeB s F M)) ∧ Below w.heap.size w w':=by
 go_enter Tryz.func178,Tryz.ntmps178
 go_wp2_with fail
 go_loopw [7] (fun v wr=>∃ i:Nat,i ≤ s.size ∧ v = .int .i64 (i:Int) ∧ (∀ j,j < i → madeC F M j (ch s j) = true) ∧ Below w.heap.size w wr) (fun v _=>s.size - (intOf v).toNat)
 case atStart=>exact ⟨0,Nat.zero_le _,rfl,fun j hj=>absurd hj (Nat.not_lt_zero j),Below.refl _ _⟩
 case round =>
  obtain ⟨i,hi,rfl,hall,HB⟩:=hrel
  by_cases hlt:i < s.size
  ·have d1:decide ((i:Int) < (s.size:Int)) = true:=by simp;omega
   have ix:∀ w:World,(Instr.index 9 (.string s) (.int .i64 (i:Int))).run Tryz.prog w = .ok (.int .u8 (ch s i:Int)) w:=fun w=>nidx (w:=w) s i hlt .i64
   by_cases hi0:i = 0
   ·subst hi0
    obtain ⟨c,hc⟩:∃ c,Hid (c = ch s 0):=⟨_,rfl⟩
    have ix:∀ w:World,(Instr.index 9 (.string s) (.int .i64 0)).run Tryz.prog w = .ok (.int .u8 (c:Int)) w:=fun w=>by rw [hc.out];exact nidx (w:=w) s 0 hlt .i64
    have d1:decide (0 < (s.size:Int)) = true:=by simp;omega
    obtain ⟨b0,hb0⟩:∃ b0,nlet c = b0:=⟨_,rfl⟩
    have hX:Hid (madeC F M 0 c = (b0 || inSet F c F.size)):=by show _ = _;unfold madeC;simp [hb0]
    go_upto_region 7 with fail
    go_cut [8,9] (fun s8 s9 wx=>s8 = .string F ∧ s9 = .bool b0 ∧ wx = wr)
    case first =>
     cases hl:nlet c <;> rw [hl] at hb0
     all_goals
      have hb1:Hid (_ = b0):=hb0
      clear hb0
      go_wp2_with (first | (go_at_call 189;refine (rletter _ _).mono ?_;rintro e w1 ⟨rfl,hw1⟩;subst w1) | (go_at_call 190;refine (rdigit _ _).mono ?_;rintro e w1 ⟨rfl,hw1⟩;subst w1))
      go_meet
      case rel=>exact ⟨rfl,by rw [← hb1.out] <;> rfl,rfl⟩
    case rest =>
    obtain ⟨rfl,rfl,rfl⟩:=hcut
    rename World=>wr
    go_wp2_with fail
    go_loopw [9,10] (fun ok v w2=>∃ k:Nat,k ≤ F.size ∧ v = .int .i64 (k:Int) ∧ ok = .bool (b0 || inSet F c k) ∧ Below w.heap.size w w2) (fun _ v _=>F.size - (intOf v).toNat)
    case atStart=>exact ⟨0,Nat.zero_le _,rfl,by simp [inSet],HB⟩
    case round =>
     obtain ⟨k,hk,rfl,rfl,HB⟩:=hrel
     by_cases hkl:k < F.size
     ·have d2:decide ((k:Int) < (F.size:Int)) = true:=by simp;omega
      have ix2:∀ w:World,(Instr.index 9 (.string F) (.int .i64 (k:Int))).run Tryz.prog w = .ok (.int .u8 (ch F k:Int)) w:=fun w=>nidx (w:=w) F k hkl .i64
      have hsu:=inSet_succ F c k
      by_cases hcc:ch F k = c
      ·have ec:((ch F k:Int) == (c:Int)) = true:=by simp;omega
       have hv:Hid ((b0 || inSet F c (k + 1)) = true):=by show _ = _;rw [hsu,decide_eq_true hcc,Bool.or_true,Bool.or_true]
       clear hcc hsu
       go_wp2_with fail
       go_quiet (fail)
       go_wp2_with fail
       go_round
       case rel=>exact ⟨k + 1,by omega,by go_num,by rw [hv.out],bdN HB _⟩
       case measure=>simp [intOf];omega
      ·have ec:((ch F k:Int) == (c:Int)) = false:=by simp;omega
       have hv:Hid ((b0 || inSet F c (k + 1)) = (b0 || inSet F c k)):=by show _ = _;rw [hsu,decide_eq_false hcc,Bool.or_false]
       clear hcc hsu
       go_wp2_with fail
       go_quiet (fail)
       go_wp2_with fail
       go_round
       case rel=>exact ⟨k + 1,by omega,by go_num,by rw [hv.out],bdN HB _⟩
       case measure=>simp [intOf];omega
     ·obtain rfl:k = F.size:=by omega
      have d2:decide ((F.size:Int) < (F.size:Int)) = false:=by simp
      have hX:=hX.out
      generalize (b0 || inSet F c F.size) = bb at hX ⊢
      cases bb
      ·have g:madeB s F M = false:=by
        unfold madeB
        simp only [decide_eq_false_iff_not]
        rintro ⟨-,h⟩
        have:=h 0 hlt
        rw [← hc.out,hX] at this
        cases this
       clear hX
       go_wp2_with fail
       go_ret
       first | exact ⟨rfl,HB⟩ | exact ⟨nret g.symm,HB⟩
      ·have hX:Hid (_ = true):=hX
       go_wp2_with fail
       go_round
       case rel=>exact ⟨1,by omega,by go_num,fun j hj=>by
        by_cases h:j = 0
        ·rw [h,← hc.out];exact hX.out
        ·exact hall j (by omega),HB⟩
       case measure=>simp [intOf];omega
   ·have e0:((i:Int) == 0) = false:=by simp [hi0]
    have p0:0 < i:=by omega
    obtain ⟨c,hc⟩:∃ c,Hid (c = ch s i):=⟨_,rfl⟩
    rw [← hc.out] at ix
    obtain ⟨b0,hb0⟩:∃ b0,(nlet c || ndig c) = b0:=⟨_,rfl⟩
    have hX:Hid (madeC F M i c = (b0 || inSet M c M.size)):=by show _ = _;unfold madeC;rw [if_neg hi0,← hb0,decide_eq_true (show 0 < i by omega),Bool.true_and]
    clear hi0
    go_upto_region 7 with fail
    go_cut [8,9] (fun s8 s9 wx=>s8 = .string M ∧ s9 = .bool b0 ∧ wx = wr)
    case first =>
     cases hl:nlet c <;> cases hd:ndig c <;> rw [hl,hd] at hb0
     all_goals
      have hb1:Hid (_ = b0):=hb0
      clear hb0
      go_wp2_with (first | (go_at_call 189;refine (rletter _ _).mono ?_;rintro e w1 ⟨rfl,hw1⟩;subst w1) | (go_at_call 190;refine (rdigit _ _).mono ?_;rintro e w1 ⟨rfl,hw1⟩;subst w1))
      go_meet
      case rel=>exact ⟨rfl,by rw [← hb1.out] <;> rfl,rfl⟩
    case rest =>
    obtain ⟨rfl,rfl,rfl⟩:=hcut
    rename World=>wr
    go_wp2_with fail
    go_loopw [9,10] (fun ok v w2=>∃ k:Nat,k ≤ M.size ∧ v = .int .i64 (k:Int) ∧ ok = .bool (b0 || inSet M c k) ∧ Below w.heap.size w w2) (fun _ v _=>M.size - (intOf v).toNat)
    case atStart=>exact ⟨0,Nat.zero_le _,rfl,by simp [inSet],HB⟩
    case round =>
     obtain ⟨k,hk,rfl,rfl,HB⟩:=hrel
     by_cases hkl:k < M.size
     ·have d2:decide ((k:Int) < (M.size:Int)) = true:=by simp;omega
      have ix2:∀ w:World,(Instr.index 9 (.string M) (.int .i64 (k:Int))).run Tryz.prog w = .ok (.int .u8 (ch M k:Int)) w:=fun w=>nidx (w:=w) M k hkl .i64
      have hsu:=inSet_succ M c k
      by_cases hcc:ch M k = c
      ·have ec:((ch M k:Int) == (c:Int)) = true:=by simp;omega
       have hv:Hid ((b0 || inSet M c (k + 1)) = true):=by show _ = _;rw [hsu,decide_eq_true hcc,Bool.or_true,Bool.or_true]
       clear hcc hsu
       go_wp2_with fail
       go_quiet (fail)
       go_wp2_with fail
       go_round
       case rel=>exact ⟨k + 1,by omega,by go_num,by rw [hv.out],bdN HB _⟩
       case measure=>simp [intOf];omega
      ·have ec:((ch M k:Int) == (c:Int)) = false:=by simp;omega
       have hv:Hid ((b0 || inSet M c (k + 1)) = (b0 || inSet M c k)):=by show _ = _;rw [hsu,decide_eq_false hcc,Bool.or_false]
       clear hcc hsu
       go_wp2_with fail
       go_quiet (fail)
       go_wp2_with fail
       go_round
       case rel=>exact ⟨k + 1,by omega,by go_num,by rw [hv.out],bdN HB _⟩
       case measure=>simp [intOf];omega
     ·obtain rfl:k = M.size:=by omega
      have d2:decide ((M.size:Int) < (M.size:Int)) = false:=by simp
      have hX:=hX.out
      generalize (b0 || inSet M c M.size) = bb at hX ⊢
      cases bb
      ·have g:madeB s F M = false:=by
        unfold madeB
        simp only [decide_eq_false_iff_not]
        rintro ⟨-,h⟩
        have:=h i hlt
        rw [← hc.out,hX] at this
        cases this
       clear hX
       go_wp2_with fail
       go_ret
       first | exact ⟨rfl,HB⟩ | exact ⟨nret g.symm,HB⟩
      ·have hX:Hid (_ = true):=hX
       go_wp2_with fail
       go_round
       case rel=>exact ⟨i + 1,by omega,by go_num,fun j hj=>by
        by_cases h:j = i
        ·rw [h,← hc.out];exact hX.out
        ·exact hall j (by omega),HB⟩
       case measure=>simp [intOf];omega
  ·obtain rfl:i = s.size:=by omega
   have g:madeB s F M = !(s.toList == []):=by
    rw [nempty]
    unfold madeB
    by_cases h0:s.size = 0
    ·simp [h0]
    ·simp only [h0,decide_false,Bool.not_false,decide_eq_true_eq]
     exact ⟨by omega,hall⟩
   clear hall
   have d2:decide ((s.size:Int) < (s.size:Int)) = false:=by simp
   have g:Hid (madeB s F M = !(s.toList == [])):=g
   go_wp2_with fail
   go_ret
   exact ⟨nret (by rw [g.out];cases s.toList <;> rfl),HB⟩
abbrev xF:ByteArray:=⟨#[95,58]⟩
abbrev xM:ByteArray:=⟨#[95,58,45,46]⟩
theorem inSet_xF (c:Nat):inSet xF c xF.size = (decide (95 = c) || decide (58 = c)):=by
 show (decide (95 = c) || (decide (58 = c) || false)) = _
 rw [Bool.or_false]
theorem inSet_xM (c:Nat):inSet xM c xM.size = (decide (95 = c) || decide (58 = c) || decide (45 = c) || decide (46 = c)):=by
 show (decide (95 = c) || (decide (58 = c) || (decide (45 = c) || (decide (46 = c) || false)))) = _
 rw [Bool.or_false,Bool.or_assoc,Bool.or_assoc]
theorem madeC_x (i c:Nat):madeC xF xM i c = nxml c (decide (i = 0)):=by
 unfold madeC nxml
 by_cases hi:i = 0
 ·rw [if_pos hi,inSet_xF,hi]
  simp only [eq_comm (a:=c)]
  cases nlet c <;> cases ndig c <;> cases decide (95 = c) <;> cases decide (58 = c) <;> simp
 ·rw [if_neg hi,inSet_xM,decide_eq_true (show 0 < i by omega)]
  simp only [eq_comm (a:=c),hi,decide_false]
  cases nlet c <;> cases ndig c <;> cases decide (95 = c) <;> cases decide (58 = c) <;> cases decide (45 = c) <;> cases decide (46 = c) <;> rfl
theorem madeB_x (s:ByteArray):madeB s xF xM = xmlNameB s:=by
 unfold madeB xmlNameB
 simp only [madeC_x]
theorem rXMLName (s:ByteArray) (hs:s.size ≤ 9223372036854775806) (w:World):Calls Tryz.prog 160 #[.string s] w fun e w'=>e = .returned (.bool (xmlNameB s)) ∧ Below w.heap.size w w':=by
 have hm:=fun w=>rmade s xF xM hs (by decide) (by decide) w
 rw [madeB_x] at hm
 go_enter Tryz.func160,Tryz.ntmps160
 go_wp2_with (go_at_call 178;refine (hm _).mono ?_;rintro e w1 ⟨rfl,hb⟩)
 go_ret
 exact ⟨rfl,hb⟩
def vI (s:ByteArray) (n:Nat):Int :=
 if n = 1 then (ch s 0:Int) else
 if n = 2 then ((ch s 0:Int) - 192) * 64 + (ch s 1:Int) - 128 else
 if n = 3 then (((ch s 0:Int) - 224) * 64 + (ch s 1:Int) - 128) * 64 + (ch s 2:Int) - 128 else
 ((((ch s 0:Int) - 240) * 64 + (ch s 1:Int) - 128) * 64 + (ch s 2:Int) - 128) * 64 + (ch s 3:Int) - 128
def hitP (s:ByteArray) (n:Nat):Prop:=n ≤ s.size ∧ (encI (vI s n)).length = n ∧ (lOf s).take n = encI (vI s n)
theorem take_ch (s:ByteArray):∀ n,n ≤ s.size → (lOf s).take n = (List.range n).map (ch s)
 | 0,_=>rfl
 | n + 1,h=>by
  rw [List.range_succ,List.map_append,← take_ch s n (by omega),take_succ_ch s n (by omega)]
  rfl
theorem encI_len (v:Int):(encI v).length = if goodI v then (if v < 128 then 1 else if v < 2048 then 2 else if v < 65536 then 3 else 4) else 0:=by
 unfold encI
 by_cases h:goodI v
 ·have h':=h
  unfold goodI at h'
  rw [if_pos h,if_pos h]
  unfold encN
  by_cases h1:v < 128
  ·rw [if_pos (by omega),if_pos h1];rfl
  ·rw [if_neg (by omega),if_neg h1]
   by_cases h2:v < 2048
   ·rw [if_pos (by omega),if_pos h2];rfl
   ·rw [if_neg (by omega),if_neg h2]
    by_cases h3:v < 65536
    ·rw [if_pos (by omega),if_pos h3];rfl
    ·rw [if_neg (by omega),if_neg h3];rfl
 ·rw [if_neg h,if_neg h];rfl
theorem hit1 (s:ByteArray):hitP s 1 ↔ 1 ≤ s.size ∧ ch s 0 < 128:=by
 unfold hitP
 have hv:vI s 1 = (ch s 0:Int):=rfl
 rw [hv,encI_len]
 constructor
 ·rintro ⟨h1,h2,-⟩
  refine ⟨h1,?_⟩
  split at h2
  ·split at h2
   ·omega
   ·split at h2
    ·omega
    ·split at h2 <;> omega
  ·omega
 ·rintro ⟨h1,h2⟩
  have hg:goodI (ch s 0:Int):=by unfold goodI;omega
  refine ⟨h1,by rw [if_pos hg,if_pos (by omega)],?_⟩
  rw [take_ch s 1 h1]
  unfold encI encN
  rw [if_pos hg,if_pos (by omega)]
  rfl
theorem hit2 (s:ByteArray):hitP s 2 ↔ 2 ≤ s.size ∧ 194 ≤ ch s 0 ∧ ch s 0 ≤ 223 ∧ 128 ≤ ch s 1 ∧ ch s 1 ≤ 191:=by
 unfold hitP
 obtain ⟨v,hv⟩:∃ v,v = vI s 2:=⟨_,rfl⟩
 have hv':v = ((ch s 0:Int) - 192) * 64 + (ch s 1:Int) - 128:=hv
 rw [← hv]
 have b0:=ch_lt s 0
 have b1:=ch_lt s 1
 constructor
 ·rintro ⟨h1,h2,h3⟩
  have hl:=h2
  rw [encI_len] at hl
  rw [take_ch s 2 h1] at h3
  have hr:goodI v ∧ 128 ≤ v ∧ v < 2048:=by
   split at hl
   ·rename_i hg
    split at hl
    ·omega
    ·split at hl
     ·exact ⟨hg,by omega,by omega⟩
     ·split at hl <;> omega
   ·omega
  unfold encI encN at h3
  rw [if_pos hr.1,if_neg (by omega),if_pos (by omega)] at h3
  have e0:ch s 0 = 192 + v.toNat / 64:=by injection h3
  have e1:ch s 1 = 128 + v.toNat % 64:=by injection h3 with _ h3;injection h3
  omega
 ·rintro ⟨h1,h2,h3,h4,h5⟩
  have hg:goodI v:=by unfold goodI;omega
  refine ⟨h1,by rw [encI_len,if_pos hg,if_neg (by omega),if_pos (by omega)],?_⟩
  rw [take_ch s 2 h1]
  unfold encI encN
  rw [if_pos hg,if_neg (by omega),if_pos (by omega)]
  show [ch s 0,ch s 1] = _
  rw [show 192 + v.toNat / 64 = ch s 0 by omega,show 128 + v.toNat % 64 = ch s 1 by omega]
theorem hit3 (s:ByteArray):hitP s 3 ↔ 3 ≤ s.size ∧ 224 ≤ ch s 0 ∧ ch s 0 ≤ 239 ∧ 128 ≤ ch s 1 ∧ ch s 1 ≤ 191 ∧ (ch s 0 = 224 → 160 ≤ ch s 1) ∧ (ch s 0 = 237 → ch s 1 ≤ 159) ∧ 128 ≤ ch s 2 ∧ ch s 2 ≤ 191:=by
 unfold hitP
 obtain ⟨v,hv⟩:∃ v,v = vI s 3:=⟨_,rfl⟩
 have hv':v = (((ch s 0:Int) - 224) * 64 + (ch s 1:Int) - 128) * 64 + (ch s 2:Int) - 128:=hv
 rw [← hv]
 have b0:=ch_lt s 0
 have b1:=ch_lt s 1
 have b2:=ch_lt s 2
 constructor
 ·rintro ⟨h1,h2,h3⟩
  have hl:=h2
  rw [encI_len] at hl
  rw [take_ch s 3 h1] at h3
  have hr:goodI v ∧ 2048 ≤ v ∧ v < 65536:=by
   split at hl
   ·rename_i hg
    split at hl
    ·omega
    ·split at hl
     ·omega
     ·split at hl
      ·exact ⟨hg,by omega,by omega⟩
      ·omega
   ·omega
  have hg:=hr.1
  unfold goodI at hg
  unfold encI encN at h3
  rw [if_pos hr.1,if_neg (by omega),if_neg (by omega),if_pos (by omega)] at h3
  have e0:ch s 0 = 224 + v.toNat / 4096:=by injection h3
  have e1:ch s 1 = 128 + v.toNat / 64 % 64:=by injection h3 with _ h3;injection h3
  have e2:ch s 2 = 128 + v.toNat % 64:=by injection h3 with _ h3;injection h3 with _ h3;injection h3
  omega
 ·rintro ⟨h1,h2,h3,h4,h5,h6,h7,h8,h9⟩
  have hg:goodI v:=by unfold goodI;omega
  have r1:2048 ≤ v:=by omega
  have r2:v < 65536:=by omega
  refine ⟨h1,by rw [encI_len,if_pos hg,if_neg (by omega),if_neg (by omega),if_pos r2],?_⟩
  rw [take_ch s 3 h1]
  unfold encI encN
  rw [if_pos hg,if_neg (by omega),if_neg (by omega),if_pos (by omega)]
  show [ch s 0,ch s 1,ch s 2] = _
  rw [show 224 + v.toNat / 4096 = ch s 0 by omega,show 128 + v.toNat / 64 % 64 = ch s 1 by omega,show 128 + v.toNat % 64 = ch s 2 by omega]
theorem hit4 (s:ByteArray):hitP s 4 ↔ 4 ≤ s.size ∧ 240 ≤ ch s 0 ∧ ch s 0 ≤ 244 ∧ 128 ≤ ch s 1 ∧ ch s 1 ≤ 191 ∧ (ch s 0 = 240 → 144 ≤ ch s 1) ∧ (ch s 0 = 244 → ch s 1 ≤ 143) ∧ 128 ≤ ch s 2 ∧ ch s 2 ≤ 191 ∧ 128 ≤ ch s 3 ∧ ch s 3 ≤ 191:=by
 unfold hitP
 obtain ⟨v,hv⟩:∃ v,v = vI s 4:=⟨_,rfl⟩
 have hv':v = ((((ch s 0:Int) - 240) * 64 + (ch s 1:Int) - 128) * 64 + (ch s 2:Int) - 128) * 64 + (ch s 3:Int) - 128:=hv
 rw [← hv]
 have b0:=ch_lt s 0
 have b1:=ch_lt s 1
 have b2:=ch_lt s 2
 have b3:=ch_lt s 3
 constructor
 ·rintro ⟨h1,h2,h3⟩
  have hl:=h2
  rw [encI_len] at hl
  rw [take_ch s 4 h1] at h3
  have hr:goodI v ∧ 65536 ≤ v:=by
   split at hl
   ·rename_i hg
    split at hl
    ·omega
    ·split at hl
     ·omega
     ·split at hl
      ·omega
      ·exact ⟨hg,by omega⟩
   ·omega
  have hg:=hr.1
  unfold goodI at hg
  unfold encI encN at h3
  rw [if_pos hr.1,if_neg (by omega),if_neg (by omega),if_neg (by omega)] at h3
  have e0:ch s 0 = 240 + v.toNat / 262144:=by injection h3
  have e1:ch s 1 = 128 + v.toNat / 4096 % 64:=by injection h3 with _ h3;injection h3
  have e2:ch s 2 = 128 + v.toNat / 64 % 64:=by injection h3 with _ h3;injection h3 with _ h3;injection h3
  have e3:ch s 3 = 128 + v.toNat % 64:=by injection h3 with _ h3;injection h3 with _ h3;injection h3 with _ h3;injection h3
  omega
 ·rintro ⟨h1,h2,h3,h4,h5,h6,h7,h8,h9,h10,h11⟩
  have r1:65536 ≤ v:=by omega
  have r2:v ≤ 1114111:=by omega
  have hg:goodI v:=by unfold goodI;omega
  refine ⟨h1,by rw [encI_len,if_pos hg,if_neg (by omega),if_neg (by omega),if_neg (by omega)],?_⟩
  rw [take_ch s 4 h1]
  unfold encI encN
  rw [if_pos hg,if_neg (by omega),if_neg (by omega),if_neg (by omega)]
  show [ch s 0,ch s 1,ch s 2,ch s 3] = _
  rw [show 240 + v.toNat / 262144 = ch s 0 by omega,show 128 + v.toNat / 4096 % 64 = ch s 1 by omega,show 128 + v.toNat / 64 % 64 = ch s 2 by omega,show 128 + v.toNat % 64 = ch s 3 by omega]
theorem seq_hit1 (s:ByteArray) (h:hitP s 1):seqN s = ((vI s 1).toNat,1):=by
 rw [hit1] at h
 have r:rsz (ch s 0) = 1:=by unfold rsz;rw [if_pos (by omega)]
 unfold seqN
 simp only [r]
 rw [if_pos (by unfold begB;rw [decide_eq_true h.1];rfl),if_pos trivial]
 rfl
theorem beg_tail (c:Nat):tailB c = true ↔ 128 ≤ c ∧ c ≤ 191:=by unfold tailB;simp
theorem seq_hit2 (s:ByteArray) (h:hitP s 2):seqN s = ((vI s 2).toNat,2):=by
 have hv:vI s 2 = ((ch s 0:Int) - 192) * 64 + (ch s 1:Int) - 128:=rfl
 rw [hit2] at h
 have r:rsz (ch s 0) = 2:=by unfold rsz;rw [if_neg (by omega),if_neg (by omega),if_pos (by omega)]
 have lo:rlo (ch s 0) = 128:=by unfold rlo;rw [if_neg (by omega),if_neg (by omega),if_pos (by omega)]
 have hi:rhi (ch s 0) = 191:=by unfold rhi;rw [if_neg (by omega),if_neg (by omega),if_pos (by omega)]
 unfold seqN
 simp only [r,lo,hi]
 rw [if_pos (by unfold begB;simp;omega),if_neg (by decide)]
 simp only [accN,Prod.mk.injEq,and_true,Nat.reduceAdd]
 omega
theorem seq_hit3 (s:ByteArray) (h:hitP s 3):seqN s = ((vI s 3).toNat,3):=by
 have hv:vI s 3 = (((ch s 0:Int) - 224) * 64 + (ch s 1:Int) - 128) * 64 + (ch s 2:Int) - 128:=rfl
 rw [hit3] at h
 have r:rsz (ch s 0) = 3:=by unfold rsz;rw [if_neg (by omega),if_neg (by omega),if_neg (by omega),if_pos (by omega)]
 have lo:rlo (ch s 0) ≤ ch s 1:=by unfold rlo;rw [if_neg (by omega),if_neg (by omega),if_neg (by omega)];split;omega;rw [if_pos (by omega)];omega
 have hi:ch s 1 ≤ rhi (ch s 0):=by unfold rhi;rw [if_neg (by omega),if_neg (by omega),if_neg (by omega)];split;omega;rw [if_pos (by omega)];omega
 have t2:=(beg_tail (ch s 2)).2 (by omega)
 unfold seqN
 simp only [r]
 rw [if_pos (by unfold begB;simp [t2,lo,hi];omega),if_neg (by decide)]
 simp only [accN,Prod.mk.injEq,and_true,Nat.reduceAdd]
 omega
theorem seq_hit4 (s:ByteArray) (h:hitP s 4):seqN s = ((vI s 4).toNat,4):=by
 have hv:vI s 4 = ((((ch s 0:Int) - 240) * 64 + (ch s 1:Int) - 128) * 64 + (ch s 2:Int) - 128) * 64 + (ch s 3:Int) - 128:=rfl
 rw [hit4] at h
 have r:rsz (ch s 0) = 4:=by unfold rsz;rw [if_neg (by omega),if_neg (by omega),if_neg (by omega),if_neg (by omega),if_pos (by omega)]
 have lo:rlo (ch s 0) ≤ ch s 1:=by unfold rlo;rw [if_neg (by omega),if_neg (by omega),if_neg (by omega),if_neg (by omega),if_neg (by omega)];split;omega;rw [if_pos (by omega)];omega
 have hi:ch s 1 ≤ rhi (ch s 0):=by unfold rhi;rw [if_neg (by omega),if_neg (by omega),if_neg (by omega),if_neg (by omega)];split;omega;rw [if_pos (by omega)];omega
 have t2:=(beg_tail (ch s 2)).2 (by omega)
 have t3:=(beg_tail (ch s 3)).2 (by omega)
 unfold seqN
 simp only [r]
 rw [if_pos (by unfold begB;simp [t2,t3,lo,hi];omega),if_neg (by decide)]
 simp only [accN,Prod.mk.injEq,and_true,Nat.reduceAdd]
 omega
theorem seq_none (s:ByteArray) (h1:¬ hitP s 1) (h2:¬ hitP s 2) (h3:¬ hitP s 3) (h4:¬ hitP s 4):seqN s = (0,0):=by
 rw [hit1] at h1
 rw [hit2] at h2
 rw [hit3] at h3
 rw [hit4] at h4
 unfold seqN
 dsimp only
 rw [if_neg]
 intro hb
 unfold begB at hb
 simp only [Bool.and_eq_true,Bool.or_eq_true,decide_eq_true_eq,beg_tail] at hb
 obtain ⟨b1,b2⟩:=hb
 unfold rsz at b1 b2
 unfold rlo rhi at b2
 by_cases c1:ch s 0 ≤ 127
 ·rw [if_pos c1] at b1;omega
 ·simp only [c1,if_false] at b1 b2
  by_cases c2:ch s 0 < 194
  ·simp only [c2,if_true] at b1 b2;omega
  ·simp only [c2,if_false] at b1 b2
   by_cases c3:ch s 0 ≤ 223
   ·simp only [c3,if_true] at b1 b2;omega
   ·simp only [c3,if_false] at b1 b2
    by_cases c4:ch s 0 ≤ 239
    ·simp only [c4,if_true] at b1 b2
     by_cases c5:ch s 0 = 224
     ·simp only [c5,if_true] at b1 b2;simp at b2;omega
     ·by_cases c6:ch s 0 = 237
      ·simp only [c6,if_true] at b1 b2;simp at b2;omega
      ·simp only [c5,c6,if_false] at b1 b2
       rw [if_pos (show ch s 0 ≤ 243 by omega)] at b2
       omega
    ·simp only [c4,if_false] at b1 b2
     by_cases c7:ch s 0 ≤ 244
     ·simp only [c7,if_true] at b1 b2
      have n1:¬ ch s 0 = 224:=by omega
      have n2:¬ ch s 0 = 237:=by omega
      simp only [n1,n2,if_false] at b1 b2
      by_cases c8:ch s 0 = 240
      ·simp only [c8,if_true] at b1 b2;simp at b2;omega
      ·simp only [c8,if_false] at b1 b2
       by_cases c9:ch s 0 ≤ 243
       ·rw [if_pos c9] at b2;omega
       ·rw [if_neg c9,if_pos (show ch s 0 = 244 by omega)] at b2;omega
     ·simp only [c7,if_false] at b1 b2;omega
theorem bdt {a b c:World} (HB:Below a.heap.size a b) (hb:Below b.heap.size b c):Below a.heap.size a c:=HB.trans (hb.mono HB.size)
theorem ret_two {a b c d:Int} (h:a = b) (h2:c = d):Ending.returned (.tuple #[.int .i64 a,.int .i64 c]) = .returned (.tuple #[.int .i64 b,.int .i64 d]):=by rw [h,h2]
theorem encI_lt (v:Int):∀ b ∈ encI v,b < 256:=by
 unfold encI
 by_cases h:goodI v
 ·have h':=h
  unfold goodI at h'
  rw [if_pos h]
  unfold encN
  intro b hb
  split at hb
  ·simp at hb;omega
  ·split at hb
   ·simp at hb;omega
   ·split at hb
    ·simp at hb;omega
    ·simp at hb;omega
 ·rw [if_neg h]
  intro b hb
  cases hb
theorem hit_iff (s:ByteArray) (n:Nat) (hn:n ≤ s.size):hitP s n ↔ (encI (vI s n)).length = n ∧ (decide ((sOf (encI (vI s n))).size ≤ s.size) && decide (s.extract 0 (sOf (encI (vI s n))).size = sOf (encI (vI s n)))) = true:=by
 unfold hitP
 rw [Bool.and_eq_true,decide_eq_true_eq,decide_eq_true_eq,sOf_size]
 constructor
 ·rintro ⟨h1,h2,h3⟩
  refine ⟨h2,by omega,?_⟩
  rw [h2,← h3]
  apply lOf_inj
  rw [lOf_extract,List.drop_zero,Nat.sub_zero,lOf_sOf _ (fun b hb=>lOf_lt s b (List.mem_of_mem_take hb))]
 ·rintro ⟨h1,h2,h3⟩
  refine ⟨hn,h1,?_⟩
  have h4:=congrArg lOf h3
  rw [lOf_extract,List.drop_zero,Nat.sub_zero,h1,lOf_sOf _ (encI_lt _)] at h4
  exact h4
theorem no_more {s:ByteArray} {n:Nat} (h:∀ m:Nat,1 ≤ m → (m:Int) < (n:Int) → ¬ hitP s m) (h2:¬ hitP s n):∀ m:Nat,1 ≤ m → (m:Int) < ((n:Int) + 1) → ¬ hitP s m:=fun m h1 h3=>by
 by_cases he:m = n
 ·rw [he];exact h2
 ·exact h m h1 (by omega)
theorem none_of {s:ByteArray} {n:Int} (h:∀ m:Nat,1 ≤ m → (m:Int) < n → ¬ hitP s m) (h2:∀ m:Nat,1 ≤ m → n ≤ (m:Int) → m ≤ 4 → ¬ hitP s m):seqN s = (0,0):=by
 have key:∀ m:Nat,1 ≤ m → m ≤ 4 → ¬ hitP s m:=fun m h1 h4=>by
  by_cases hm:(m:Int) < n
  ·exact h m h1 hm
  ·exact h2 m h1 (by omega) h4
 exact seq_none s (key 1 (by omega) (by omega)) (key 2 (by omega) (by omega)) (key 3 (by omega) (by omega)) (key 4 (by omega) (by omega))
theorem rDecode (s:ByteArray) (hs:1 ≤ s.size) (hs2:s.size ≤ 9223372036854775806) (w:World):Calls Tryz.prog 93 #[.string s] w fun e w'=>e = .returned (.tuple #[.int .i64 ((seqN s).1:Nat),.int .i64 ((seqN s).2:Nat)]) ∧ Below w.heap.size w w':=by
 go_enter Tryz.func93,Tryz.ntmps93
 go_wp2_with fail
 go_loopw [4] (fun v wr=>∃ n:Int,1 ≤ n ∧ n ≤ 5 ∧ v = .int .i64 n ∧ Hid (∀ m:Nat,1 ≤ m → (m:Int) < n → ¬ hitP s m) ∧ Below w.heap.size w wr) (fun v _=>5 - (intOf v).toNat)
 case atStart=>exact ⟨1,by omega,by omega,rfl,fun m h1 h2=>absurd h2 (by omega),Below.refl _ _⟩
 case round =>
  obtain ⟨n,hn1,hn2,rfl,hno,HB⟩:=hrel
  have:n = 1 ∨ n = 2 ∨ n = 3 ∨ n = 4 ∨ n = 5:=by omega
  clear hn1 hn2
  rcases this with rfl | rfl | rfl | rfl | rfl
  ·have hle:1 ≤ s.size ∨ s.size < 1:=by omega
   rcases hle with hle | hle
   ·have d1:decide ((1:Int) ≤ (s.size:Int)) = true:=by simp;omega
    have i0:∀ w:World,(Instr.index 9 (.string s) (.int .i64 0)).run Tryz.prog w = .ok (.int .u8 (ch s 0:Int)) w:=fun w=>nidx (w:=w) s 0 (by omega) .i64
    have b0:=ch_lt s 0
    obtain ⟨v,hv⟩:∃ v,Hid (v = vI s 1):=⟨_,rfl⟩
    have hE:∀ w,Calls Tryz.prog 125 #[.int .i64 ((ch s 0:Int))] w fun e w'=>e = .returned (.string (sOf (encI v))) ∧ Below w.heap.size w w':=fun w=>by
     have:=rEncode (vI s 1) w
     rw [← hv.out] at this
     rw [hv.out] at this ⊢
     exact this
    have hB:∀ w,Calls Tryz.prog 126 #[.string s,.string (sOf (encI v))] w fun e w'=>e = .returned (.bool (decide ((sOf (encI v)).size ≤ s.size) && decide (s.extract 0 (sOf (encI v)).size = sOf (encI v)))) ∧ w' = w:=fun w=>rbegins s _ w
    have hh:Hid (hitP s 1 ↔ (encI v).length = 1 ∧ (decide ((sOf (encI v)).size ≤ s.size) && decide (s.extract 0 (sOf (encI v)).size = sOf (encI v))) = true):=by
     show _ ↔ _
     rw [hv.out]
     exact hit_iff s 1 hle
    have hr:Hid (hitP s 1 → seqN s = (v.toNat,1)):=by
     show _ → _
     rw [hv.out]
     exact seq_hit1 s
    have hz:Hid ((sOf (encI v)).size = (encI v).length):=sOf_size _
    have hvn:Hid (hitP s 1 → 0 ≤ v):=by
     show _ → _
     intro hp
     have h1:v = (ch s 0:Int):=hv.out
     rw [hit1] at hp
     omega
    have hvv:Hid ((ch s 0:Int) = v):=hv.out.symm
    clear hv
    generalize encI v = L at hE hB hh hz
    by_cases hL:L.length = 1
    ·have e1:(((sOf L).size:Int) == 1) = true:=by rw [hz.out,hL];rfl
     have hL:Hid (L.length = 1):=hL
     generalize (decide ((sOf L).size ≤ s.size) && decide (s.extract 0 (sOf L).size = sOf L)) = bb at hB hh
     cases bb
     ·have hm:Hid (¬ hitP s 1):=fun h=>by have:=(hh.out.1 h).2;cases this
      go_wp2_with fail
      refine wp_loop_rounds 2 ?_
      rw [rounds_succ]
      go_wp2_with ((first | (go_at_call 125;refine (hE _).mono ?_;rintro e w1 ⟨rfl,hb1⟩;have HB:=bdt HB hb1;clear hb1) | (go_at_call 126;refine (hB _).mono ?_;rintro e w1 ⟨rfl,hw1⟩;subst w1)))
      go_round
      case rel=>exact ⟨2,by omega,by omega,rfl,no_more hno.out hm.out,HB⟩
      case measure=>decide
     ·have hp:Hid (hitP s 1):=hh.out.2 ⟨hL.out,rfl⟩
      go_wp2_with fail
      refine wp_loop_rounds 2 ?_
      rw [rounds_succ]
      go_wp2_with ((first | (go_at_call 125;refine (hE _).mono ?_;rintro e w1 ⟨rfl,hb1⟩;have HB:=bdt HB hb1;clear hb1) | (go_at_call 126;refine (hB _).mono ?_;rintro e w1 ⟨rfl,hw1⟩;subst w1)))
      go_ret2
      refine ⟨ret_two ?_ ?_,HB⟩
      ·rw [hr.out hp.out];have h0:=hvn.out hp.out;have h1:=hvv.out;simp only;omega
      ·rw [hr.out hp.out];rfl
    ·have e1:(((sOf L).size:Int) == 1) = false:=by rw [hz.out];simp;omega
     have hm:Hid (¬ hitP s 1):=fun h=>hL (hh.out.1 h).1
     clear hL
     go_wp2_with fail
     refine wp_loop_rounds 2 ?_
     rw [rounds_succ]
     go_wp2_with ((first | (go_at_call 125;refine (hE _).mono ?_;rintro e w1 ⟨rfl,hb1⟩;have HB:=bdt HB hb1;clear hb1) | (go_at_call 126;refine (hB _).mono ?_;rintro e w1 ⟨rfl,hw1⟩;subst w1)))
     go_round
     case rel=>exact ⟨2,by omega,by omega,rfl,no_more hno.out hm.out,HB⟩
     case measure=>decide
   ·have d1:decide ((1:Int) ≤ (s.size:Int)) = false:=by simp;omega
    have hg:Hid (seqN s = (0,0)):=none_of hno.out (fun m h1 h2 _ hp=>by have:=hp.1;omega)
    go_wp2_with fail
    go_ret2
    exact ⟨ret_two (by rw [hg.out];rfl) (by rw [hg.out];rfl),HB⟩
  ·have hle:2 ≤ s.size ∨ s.size < 2:=by omega
   rcases hle with hle | hle
   ·have d1:decide ((2:Int) ≤ (s.size:Int)) = true:=by simp;omega
    have i0:∀ w:World,(Instr.index 9 (.string s) (.int .i64 0)).run Tryz.prog w = .ok (.int .u8 (ch s 0:Int)) w:=fun w=>nidx (w:=w) s 0 (by omega) .i64
    have b0:=ch_lt s 0
    have i1:∀ w:World,(Instr.index 9 (.string s) (.int .i64 1)).run Tryz.prog w = .ok (.int .u8 (ch s 1:Int)) w:=fun w=>nidx (w:=w) s 1 (by omega) .i64
    have b1:=ch_lt s 1
    obtain ⟨v,hv⟩:∃ v,Hid (v = vI s 2):=⟨_,rfl⟩
    have hE:∀ w,Calls Tryz.prog 125 #[.int .i64 (((ch s 0:Int) - 192) * 64 + (ch s 1:Int) - 128)] w fun e w'=>e = .returned (.string (sOf (encI v))) ∧ Below w.heap.size w w':=fun w=>by
     have:=rEncode (vI s 2) w
     rw [← hv.out] at this
     rw [hv.out] at this ⊢
     exact this
    have hB:∀ w,Calls Tryz.prog 126 #[.string s,.string (sOf (encI v))] w fun e w'=>e = .returned (.bool (decide ((sOf (encI v)).size ≤ s.size) && decide (s.extract 0 (sOf (encI v)).size = sOf (encI v)))) ∧ w' = w:=fun w=>rbegins s _ w
    have hh:Hid (hitP s 2 ↔ (encI v).length = 2 ∧ (decide ((sOf (encI v)).size ≤ s.size) && decide (s.extract 0 (sOf (encI v)).size = sOf (encI v))) = true):=by
     show _ ↔ _
     rw [hv.out]
     exact hit_iff s 2 hle
    have hr:Hid (hitP s 2 → seqN s = (v.toNat,2)):=by
     show _ → _
     rw [hv.out]
     exact seq_hit2 s
    have hz:Hid ((sOf (encI v)).size = (encI v).length):=sOf_size _
    have hvn:Hid (hitP s 2 → 0 ≤ v):=by
     show _ → _
     intro hp
     have h1:v = ((ch s 0:Int) - 192) * 64 + (ch s 1:Int) - 128:=hv.out
     rw [hit2] at hp
     omega
    have hvv:Hid (((ch s 0:Int) - 192) * 64 + (ch s 1:Int) - 128 = v):=hv.out.symm
    clear hv
    generalize encI v = L at hE hB hh hz
    by_cases hL:L.length = 2
    ·have e1:(((sOf L).size:Int) == 2) = true:=by rw [hz.out,hL];rfl
     have hL:Hid (L.length = 2):=hL
     generalize (decide ((sOf L).size ≤ s.size) && decide (s.extract 0 (sOf L).size = sOf L)) = bb at hB hh
     cases bb
     ·have hm:Hid (¬ hitP s 2):=fun h=>by have:=(hh.out.1 h).2;cases this
      go_wp2_with fail
      refine wp_loop_rounds 3 ?_
      rw [rounds_succ]
      go_wp2_with ((first | (go_at_call 125;refine (hE _).mono ?_;rintro e w1 ⟨rfl,hb1⟩;have HB:=bdt HB hb1;clear hb1) | (go_at_call 126;refine (hB _).mono ?_;rintro e w1 ⟨rfl,hw1⟩;subst w1)))
      rw [rounds_succ]
      go_wp2_with ((first | (go_at_call 125;refine (hE _).mono ?_;rintro e w1 ⟨rfl,hb1⟩;have HB:=bdt HB hb1;clear hb1) | (go_at_call 126;refine (hB _).mono ?_;rintro e w1 ⟨rfl,hw1⟩;subst w1)))
      go_round
      case rel=>exact ⟨3,by omega,by omega,rfl,no_more hno.out hm.out,HB⟩
      case measure=>decide
     ·have hp:Hid (hitP s 2):=hh.out.2 ⟨hL.out,rfl⟩
      go_wp2_with fail
      refine wp_loop_rounds 3 ?_
      rw [rounds_succ]
      go_wp2_with ((first | (go_at_call 125;refine (hE _).mono ?_;rintro e w1 ⟨rfl,hb1⟩;have HB:=bdt HB hb1;clear hb1) | (go_at_call 126;refine (hB _).mono ?_;rintro e w1 ⟨rfl,hw1⟩;subst w1)))
      rw [rounds_succ]
      go_wp2_with ((first | (go_at_call 125;refine (hE _).mono ?_;rintro e w1 ⟨rfl,hb1⟩;have HB:=bdt HB hb1;clear hb1) | (go_at_call 126;refine (hB _).mono ?_;rintro e w1 ⟨rfl,hw1⟩;subst w1)))
      go_ret2
      refine ⟨ret_two ?_ ?_,HB⟩
      ·rw [hr.out hp.out];have h0:=hvn.out hp.out;have h1:=hvv.out;simp only;omega
      ·rw [hr.out hp.out];rfl
    ·have e1:(((sOf L).size:Int) == 2) = false:=by rw [hz.out];simp;omega
     have hm:Hid (¬ hitP s 2):=fun h=>hL (hh.out.1 h).1
     clear hL
     go_wp2_with fail
     refine wp_loop_rounds 3 ?_
     rw [rounds_succ]
     go_wp2_with ((first | (go_at_call 125;refine (hE _).mono ?_;rintro e w1 ⟨rfl,hb1⟩;have HB:=bdt HB hb1;clear hb1) | (go_at_call 126;refine (hB _).mono ?_;rintro e w1 ⟨rfl,hw1⟩;subst w1)))
     rw [rounds_succ]
     go_wp2_with ((first | (go_at_call 125;refine (hE _).mono ?_;rintro e w1 ⟨rfl,hb1⟩;have HB:=bdt HB hb1;clear hb1) | (go_at_call 126;refine (hB _).mono ?_;rintro e w1 ⟨rfl,hw1⟩;subst w1)))
     go_round
     case rel=>exact ⟨3,by omega,by omega,rfl,no_more hno.out hm.out,HB⟩
     case measure=>decide
   ·have d1:decide ((2:Int) ≤ (s.size:Int)) = false:=by simp;omega
    have hg:Hid (seqN s = (0,0)):=none_of hno.out (fun m h1 h2 _ hp=>by have:=hp.1;omega)
    go_wp2_with fail
    go_ret2
    exact ⟨ret_two (by rw [hg.out];rfl) (by rw [hg.out];rfl),HB⟩
  ·have hle:3 ≤ s.size ∨ s.size < 3:=by omega
   rcases hle with hle | hle
   ·have d1:decide ((3:Int) ≤ (s.size:Int)) = true:=by simp;omega
    have i0:∀ w:World,(Instr.index 9 (.string s) (.int .i64 0)).run Tryz.prog w = .ok (.int .u8 (ch s 0:Int)) w:=fun w=>nidx (w:=w) s 0 (by omega) .i64
    have b0:=ch_lt s 0
    have i1:∀ w:World,(Instr.index 9 (.string s) (.int .i64 1)).run Tryz.prog w = .ok (.int .u8 (ch s 1:Int)) w:=fun w=>nidx (w:=w) s 1 (by omega) .i64
    have b1:=ch_lt s 1
    have i2:∀ w:World,(Instr.index 9 (.string s) (.int .i64 2)).run Tryz.prog w = .ok (.int .u8 (ch s 2:Int)) w:=fun w=>nidx (w:=w) s 2 (by omega) .i64
    have b2:=ch_lt s 2
    obtain ⟨v,hv⟩:∃ v,Hid (v = vI s 3):=⟨_,rfl⟩
    have hE:∀ w,Calls Tryz.prog 125 #[.int .i64 ((((ch s 0:Int) - 224) * 64 + (ch s 1:Int) - 128) * 64 + (ch s 2:Int) - 128)] w fun e w'=>e = .returned (.string (sOf (encI v))) ∧ Below w.heap.size w w':=fun w=>by
     have:=rEncode (vI s 3) w
     rw [← hv.out] at this
     rw [hv.out] at this ⊢
     exact this
    have hB:∀ w,Calls Tryz.prog 126 #[.string s,.string (sOf (encI v))] w fun e w'=>e = .returned (.bool (decide ((sOf (encI v)).size ≤ s.size) && decide (s.extract 0 (sOf (encI v)).size = sOf (encI v)))) ∧ w' = w:=fun w=>rbegins s _ w
    have hh:Hid (hitP s 3 ↔ (encI v).length = 3 ∧ (decide ((sOf (encI v)).size ≤ s.size) && decide (s.extract 0 (sOf (encI v)).size = sOf (encI v))) = true):=by
     show _ ↔ _
     rw [hv.out]
     exact hit_iff s 3 hle
    have hr:Hid (hitP s 3 → seqN s = (v.toNat,3)):=by
     show _ → _
     rw [hv.out]
     exact seq_hit3 s
    have hz:Hid ((sOf (encI v)).size = (encI v).length):=sOf_size _
    have hvn:Hid (hitP s 3 → 0 ≤ v):=by
     show _ → _
     intro hp
     have h1:v = (((ch s 0:Int) - 224) * 64 + (ch s 1:Int) - 128) * 64 + (ch s 2:Int) - 128:=hv.out
     rw [hit3] at hp
     omega
    have hvv:Hid ((((ch s 0:Int) - 224) * 64 + (ch s 1:Int) - 128) * 64 + (ch s 2:Int) - 128 = v):=hv.out.symm
    clear hv
    generalize encI v = L at hE hB hh hz
    by_cases hL:L.length = 3
    ·have e1:(((sOf L).size:Int) == 3) = true:=by rw [hz.out,hL];rfl
     have hL:Hid (L.length = 3):=hL
     generalize (decide ((sOf L).size ≤ s.size) && decide (s.extract 0 (sOf L).size = sOf L)) = bb at hB hh
     cases bb
     ·have hm:Hid (¬ hitP s 3):=fun h=>by have:=(hh.out.1 h).2;cases this
      go_wp2_with fail
      refine wp_loop_rounds 4 ?_
      rw [rounds_succ]
      go_wp2_with ((first | (go_at_call 125;refine (hE _).mono ?_;rintro e w1 ⟨rfl,hb1⟩;have HB:=bdt HB hb1;clear hb1) | (go_at_call 126;refine (hB _).mono ?_;rintro e w1 ⟨rfl,hw1⟩;subst w1)))
      rw [rounds_succ]
      go_wp2_with ((first | (go_at_call 125;refine (hE _).mono ?_;rintro e w1 ⟨rfl,hb1⟩;have HB:=bdt HB hb1;clear hb1) | (go_at_call 126;refine (hB _).mono ?_;rintro e w1 ⟨rfl,hw1⟩;subst w1)))
      rw [rounds_succ]
      go_wp2_with ((first | (go_at_call 125;refine (hE _).mono ?_;rintro e w1 ⟨rfl,hb1⟩;have HB:=bdt HB hb1;clear hb1) | (go_at_call 126;refine (hB _).mono ?_;rintro e w1 ⟨rfl,hw1⟩;subst w1)))
      go_round
      case rel=>exact ⟨4,by omega,by omega,rfl,no_more hno.out hm.out,HB⟩
      case measure=>decide
     ·have hp:Hid (hitP s 3):=hh.out.2 ⟨hL.out,rfl⟩
      go_wp2_with fail
      refine wp_loop_rounds 4 ?_
      rw [rounds_succ]
      go_wp2_with ((first | (go_at_call 125;refine (hE _).mono ?_;rintro e w1 ⟨rfl,hb1⟩;have HB:=bdt HB hb1;clear hb1) | (go_at_call 126;refine (hB _).mono ?_;rintro e w1 ⟨rfl,hw1⟩;subst w1)))
      rw [rounds_succ]
      go_wp2_with ((first | (go_at_call 125;refine (hE _).mono ?_;rintro e w1 ⟨rfl,hb1⟩;have HB:=bdt HB hb1;clear hb1) | (go_at_call 126;refine (hB _).mono ?_;rintro e w1 ⟨rfl,hw1⟩;subst w1)))
      rw [rounds_succ]
      go_wp2_with ((first | (go_at_call 125;refine (hE _).mono ?_;rintro e w1 ⟨rfl,hb1⟩;have HB:=bdt HB hb1;clear hb1) | (go_at_call 126;refine (hB _).mono ?_;rintro e w1 ⟨rfl,hw1⟩;subst w1)))
      go_ret2
      refine ⟨ret_two ?_ ?_,HB⟩
      ·rw [hr.out hp.out];have h0:=hvn.out hp.out;have h1:=hvv.out;simp only;omega
      ·rw [hr.out hp.out];rfl
    ·have e1:(((sOf L).size:Int) == 3) = false:=by rw [hz.out];simp;omega
     have hm:Hid (¬ hitP s 3):=fun h=>hL (hh.out.1 h).1
     clear hL
     go_wp2_with fail
     refine wp_loop_rounds 4 ?_
     rw [rounds_succ]
     go_wp2_with ((first | (go_at_call 125;refine (hE _).mono ?_;rintro e w1 ⟨rfl,hb1⟩;have HB:=bdt HB hb1;clear hb1) | (go_at_call 126;refine (hB _).mono ?_;rintro e w1 ⟨rfl,hw1⟩;subst w1)))
     rw [rounds_succ]
     go_wp2_with ((first | (go_at_call 125;refine (hE _).mono ?_;rintro e w1 ⟨rfl,hb1⟩;have HB:=bdt HB hb1;clear hb1) | (go_at_call 126;refine (hB _).mono ?_;rintro e w1 ⟨rfl,hw1⟩;subst w1)))
     rw [rounds_succ]
     go_wp2_with ((first | (go_at_call 125;refine (hE _).mono ?_;rintro e w1 ⟨rfl,hb1⟩;have HB:=bdt HB hb1;clear hb1) | (go_at_call 126;refine (hB _).mono ?_;rintro e w1 ⟨rfl,hw1⟩;subst w1)))
     go_round
     case rel=>exact ⟨4,by omega,by omega,rfl,no_more hno.out hm.out,HB⟩
     case measure=>decide
   ·have d1:decide ((3:Int) ≤ (s.size:Int)) = false:=by simp;omega
    have hg:Hid (seqN s = (0,0)):=none_of hno.out (fun m h1 h2 _ hp=>by have:=hp.1;omega)
    go_wp2_with fail
    go_ret2
    exact ⟨ret_two (by rw [hg.out];rfl) (by rw [hg.out];rfl),HB⟩
  ·have hle:4 ≤ s.size ∨ s.size < 4:=by omega
   rcases hle with hle | hle
   ·have d1:decide ((4:Int) ≤ (s.size:Int)) = true:=by simp;omega
    have i0:∀ w:World,(Instr.index 9 (.string s) (.int .i64 0)).run Tryz.prog w = .ok (.int .u8 (ch s 0:Int)) w:=fun w=>nidx (w:=w) s 0 (by omega) .i64
    have b0:=ch_lt s 0
    have i1:∀ w:World,(Instr.index 9 (.string s) (.int .i64 1)).run Tryz.prog w = .ok (.int .u8 (ch s 1:Int)) w:=fun w=>nidx (w:=w) s 1 (by omega) .i64
    have b1:=ch_lt s 1
    have i2:∀ w:World,(Instr.index 9 (.string s) (.int .i64 2)).run Tryz.prog w = .ok (.int .u8 (ch s 2:Int)) w:=fun w=>nidx (w:=w) s 2 (by omega) .i64
    have b2:=ch_lt s 2
    have i3:∀ w:World,(Instr.index 9 (.string s) (.int .i64 3)).run Tryz.prog w = .ok (.int .u8 (ch s 3:Int)) w:=fun w=>nidx (w:=w) s 3 (by omega) .i64
    have b3:=ch_lt s 3
    obtain ⟨v,hv⟩:∃ v,Hid (v = vI s 4):=⟨_,rfl⟩
    have hE:∀ w,Calls Tryz.prog 125 #[.int .i64 (((((ch s 0:Int) - 240) * 64 + (ch s 1:Int) - 128) * 64 + (ch s 2:Int) - 128) * 64 + (ch s 3:Int) - 128)] w fun e w'=>e = .returned (.string (sOf (encI v))) ∧ Below w.heap.size w w':=fun w=>by
     have:=rEncode (vI s 4) w
     rw [← hv.out] at this
     rw [hv.out] at this ⊢
     exact this
    have hB:∀ w,Calls Tryz.prog 126 #[.string s,.string (sOf (encI v))] w fun e w'=>e = .returned (.bool (decide ((sOf (encI v)).size ≤ s.size) && decide (s.extract 0 (sOf (encI v)).size = sOf (encI v)))) ∧ w' = w:=fun w=>rbegins s _ w
    have hh:Hid (hitP s 4 ↔ (encI v).length = 4 ∧ (decide ((sOf (encI v)).size ≤ s.size) && decide (s.extract 0 (sOf (encI v)).size = sOf (encI v))) = true):=by
     show _ ↔ _
     rw [hv.out]
     exact hit_iff s 4 hle
    have hr:Hid (hitP s 4 → seqN s = (v.toNat,4)):=by
     show _ → _
     rw [hv.out]
     exact seq_hit4 s
    have hz:Hid ((sOf (encI v)).size = (encI v).length):=sOf_size _
    have hvn:Hid (hitP s 4 → 0 ≤ v):=by
     show _ → _
     intro hp
     have h1:v = ((((ch s 0:Int) - 240) * 64 + (ch s 1:Int) - 128) * 64 + (ch s 2:Int) - 128) * 64 + (ch s 3:Int) - 128:=hv.out
     rw [hit4] at hp
     omega
    have hvv:Hid (((((ch s 0:Int) - 240) * 64 + (ch s 1:Int) - 128) * 64 + (ch s 2:Int) - 128) * 64 + (ch s 3:Int) - 128 = v):=hv.out.symm
    clear hv
    generalize encI v = L at hE hB hh hz
    by_cases hL:L.length = 4
    ·have e1:(((sOf L).size:Int) == 4) = true:=by rw [hz.out,hL];rfl
     have hL:Hid (L.length = 4):=hL
     generalize (decide ((sOf L).size ≤ s.size) && decide (s.extract 0 (sOf L).size = sOf L)) = bb at hB hh
     cases bb
     ·have hm:Hid (¬ hitP s 4):=fun h=>by have:=(hh.out.1 h).2;cases this
      go_wp2_with fail
      refine wp_loop_rounds 5 ?_
      rw [rounds_succ]
      go_wp2_with ((first | (go_at_call 125;refine (hE _).mono ?_;rintro e w1 ⟨rfl,hb1⟩;have HB:=bdt HB hb1;clear hb1) | (go_at_call 126;refine (hB _).mono ?_;rintro e w1 ⟨rfl,hw1⟩;subst w1)))
      rw [rounds_succ]
      go_wp2_with ((first | (go_at_call 125;refine (hE _).mono ?_;rintro e w1 ⟨rfl,hb1⟩;have HB:=bdt HB hb1;clear hb1) | (go_at_call 126;refine (hB _).mono ?_;rintro e w1 ⟨rfl,hw1⟩;subst w1)))
      rw [rounds_succ]
      go_wp2_with ((first | (go_at_call 125;refine (hE _).mono ?_;rintro e w1 ⟨rfl,hb1⟩;have HB:=bdt HB hb1;clear hb1) | (go_at_call 126;refine (hB _).mono ?_;rintro e w1 ⟨rfl,hw1⟩;subst w1)))
      rw [rounds_succ]
      go_wp2_with ((first | (go_at_call 125;refine (hE _).mono ?_;rintro e w1 ⟨rfl,hb1⟩;have HB:=bdt HB hb1;clear hb1) | (go_at_call 126;refine (hB _).mono ?_;rintro e w1 ⟨rfl,hw1⟩;subst w1)))
      go_round
      case rel=>exact ⟨5,by omega,by omega,rfl,no_more hno.out hm.out,HB⟩
      case measure=>decide
     ·have hp:Hid (hitP s 4):=hh.out.2 ⟨hL.out,rfl⟩
      go_wp2_with fail
      refine wp_loop_rounds 5 ?_
      rw [rounds_succ]
      go_wp2_with ((first | (go_at_call 125;refine (hE _).mono ?_;rintro e w1 ⟨rfl,hb1⟩;have HB:=bdt HB hb1;clear hb1) | (go_at_call 126;refine (hB _).mono ?_;rintro e w1 ⟨rfl,hw1⟩;subst w1)))
      rw [rounds_succ]
      go_wp2_with ((first | (go_at_call 125;refine (hE _).mono ?_;rintro e w1 ⟨rfl,hb1⟩;have HB:=bdt HB hb1;clear hb1) | (go_at_call 126;refine (hB _).mono ?_;rintro e w1 ⟨rfl,hw1⟩;subst w1)))
      rw [rounds_succ]
      go_wp2_with ((first | (go_at_call 125;refine (hE _).mono ?_;rintro e w1 ⟨rfl,hb1⟩;have HB:=bdt HB hb1;clear hb1) | (go_at_call 126;refine (hB _).mono ?_;rintro e w1 ⟨rfl,hw1⟩;subst w1)))
      rw [rounds_succ]
      go_wp2_with ((first | (go_at_call 125;refine (hE _).mono ?_;rintro e w1 ⟨rfl,hb1⟩;have HB:=bdt HB hb1;clear hb1) | (go_at_call 126;refine (hB _).mono ?_;rintro e w1 ⟨rfl,hw1⟩;subst w1)))
      go_ret2
      refine ⟨ret_two ?_ ?_,HB⟩
      ·rw [hr.out hp.out];have h0:=hvn.out hp.out;have h1:=hvv.out;simp only;omega
      ·rw [hr.out hp.out];rfl
    ·have e1:(((sOf L).size:Int) == 4) = false:=by rw [hz.out];simp;omega
     have hm:Hid (¬ hitP s 4):=fun h=>hL (hh.out.1 h).1
     clear hL
     go_wp2_with fail
     refine wp_loop_rounds 5 ?_
     rw [rounds_succ]
     go_wp2_with ((first | (go_at_call 125;refine (hE _).mono ?_;rintro e w1 ⟨rfl,hb1⟩;have HB:=bdt HB hb1;clear hb1) | (go_at_call 126;refine (hB _).mono ?_;rintro e w1 ⟨rfl,hw1⟩;subst w1)))
     rw [rounds_succ]
     go_wp2_with ((first | (go_at_call 125;refine (hE _).mono ?_;rintro e w1 ⟨rfl,hb1⟩;have HB:=bdt HB hb1;clear hb1) | (go_at_call 126;refine (hB _).mono ?_;rintro e w1 ⟨rfl,hw1⟩;subst w1)))
     rw [rounds_succ]
     go_wp2_with ((first | (go_at_call 125;refine (hE _).mono ?_;rintro e w1 ⟨rfl,hb1⟩;have HB:=bdt HB hb1;clear hb1) | (go_at_call 126;refine (hB _).mono ?_;rintro e w1 ⟨rfl,hw1⟩;subst w1)))
     rw [rounds_succ]
     go_wp2_with ((first | (go_at_call 125;refine (hE _).mono ?_;rintro e w1 ⟨rfl,hb1⟩;have HB:=bdt HB hb1;clear hb1) | (go_at_call 126;refine (hB _).mono ?_;rintro e w1 ⟨rfl,hw1⟩;subst w1)))
     go_round
     case rel=>exact ⟨5,by omega,by omega,rfl,no_more hno.out hm.out,HB⟩
     case measure=>decide
   ·have d1:decide ((4:Int) ≤ (s.size:Int)) = false:=by simp;omega
    have hg:Hid (seqN s = (0,0)):=none_of hno.out (fun m h1 h2 _ hp=>by have:=hp.1;omega)
    go_wp2_with fail
    go_ret2
    exact ⟨ret_two (by rw [hg.out];rfl) (by rw [hg.out];rfl),HB⟩
  ·have hg:Hid (seqN s = (0,0)):=none_of hno.out (fun m h1 h2 h3=>by omega)
   go_wp2_with fail
   go_ret2
   exact ⟨ret_two (by rw [hg.out];rfl) (by rw [hg.out];rfl),HB⟩
theorem rChars (s:ByteArray) (w:World) (hs:s.size ≤ 9223372036854775806) :
  Calls Tryz.prog 76 #[.string s] w fun e w'=>e = .returned (.tuple #[.int .i64 ((faultN xmlB s).1:Nat),.int .i64 ((faultN xmlB s).2:Nat)]) ∧ Below w.heap.size w w':=by
 have hfe:=fault_end xmlB s
 go_enter Tryz.func76,Tryz.ntmps76
 go_wp2
 go_loopw [4] (fun i wr=>∃ a:Nat,a ≤ s.size ∧ i = .int .i64 a ∧ faultF xmlB s (s.size + 1) a = faultN xmlB s ∧ Below w.heap.size w wr) (fun i _=>s.size - (intOf i).toNat)
 case atStart=>exact ⟨0,Nat.zero_le _,rfl,rfl,Below.refl _ _⟩
 case round =>
  obtain ⟨a,ha,rfl,hfa,HB⟩:=hrel
  by_cases hlt:a < s.size
  ·have hst:=fault_step xmlB s a hlt
   rw [hfa] at hst
   have hsl:∀ w:World,(Instr.slice 9 (.string s) (some (.int .i64 a)) none none).run Tryz.prog w = .ok (.string (s.extract a s.size)) w:=fun w=>by
    rw [run_slice_string_from_if w 9 s .i64 a Tryz.underlying9,if_pos ⟨by omega,by omega⟩,Int.toNat_natCast]
   have hez:(s.extract a s.size).size = s.size - a:=size_ext s a s.size (Nat.le_refl _)
   have hle:=seqN_size_le (s.extract a s.size)
   rw [hez] at hle
   by_cases hz:(seqN (s.extract a s.size)).2 = 0
   ·rw [if_pos hz] at hst
    have hz':(((seqN (s.extract a s.size)).2:Int) == 0) = true:=by simp [hz]
    go_wp2_with (go_at_call 93;refine (rDecode _ (by rw [hez];omega) (by rw [hez];omega) _).mono ?_;rintro e w1 ⟨rfl,hb1⟩)
    go_ret2
    rw [hst]
    exact ⟨rfl,HB.trans (hb1.mono HB.size)⟩
   ·rw [if_neg hz] at hst
    have hz':(((seqN (s.extract a s.size)).2:Int) == 0) = false:=by simp;omega
    cases hok:xmlB ((seqN (s.extract a s.size)).1:Int)
    ·rw [hok,if_neg (by decide)] at hst
     go_wp2_with (first | (go_at_call 93;refine (rDecode _ (by rw [hez];omega) (by rw [hez];omega) _).mono ?_;rintro e w1 ⟨rfl,hb1⟩) | (go_at_call 94;refine (rxml _ _).mono ?_;rintro e w2 ⟨rfl,rfl⟩))
     go_ret2
     rw [hst]
     exact ⟨rfl,HB.trans (hb1.mono HB.size)⟩
    ·rw [hok,if_pos rfl] at hst
     go_wp2_with (first | (go_at_call 93;refine (rDecode _ (by rw [hez];omega) (by rw [hez];omega) _).mono ?_;rintro e w1 ⟨rfl,hb1⟩) | (go_at_call 94;refine (rxml _ _).mono ?_;rintro e w2 ⟨rfl,rfl⟩))
     go_roundw
     case rel=>exact ⟨a + (seqN (s.extract a s.size)).2,by omega,by go_num,hst.symm,HB.trans (hb1.mono HB.size)⟩
     case measure=>simp [intOf];omega
  ·obtain rfl:a = s.size:=by omega
   rw [hfe] at hfa
   go_wp2
   go_ret2
   rw [← hfa]
   exact ⟨rfl,HB⟩
end Go.Proofs.YtchfphakhmifmabGreatDoor

import Derived.Test.YtchfphakhmifmabGreatDoorSeq
import Derived.Deep.AppendSrc
import Derived.Deep.AppendLies
import Derived.Deep.OwnRows
import Derived.Lib.AtoiErrMem
import Derived.Deep.RegionHeld
import Derived.Deep.RegionLaw
namespace Go.Proofs.YtchfphakhmifmabGreatDoor
set_option maxRecDepth 1000000
set_option maxHeartbeats 16000000
open Go.ChangeShapes Go.WideShapes Go.ChangeAt Go.RowKit
def lOf (s:ByteArray):List Nat:=s.data.toList.map UInt8.toNat
def sOf (L:List Nat):ByteArray:=⟨(L.map UInt8.ofNat).toArray⟩
def cU (b:Nat):Value:=.int .u8 (b:Int)
theorem sOf_lOf (s:ByteArray):sOf (lOf s) = s:=by
 apply ba_ext
 unfold sOf lOf
 simp [Function.comp_def]
theorem lOf_sOf (L:List Nat) (h:∀ b ∈ L,b < 256):lOf (sOf L) = L:=by
 unfold sOf lOf
 simp only [List.map_map]
 conv=>rhs;rw [← List.map_id L]
 refine List.map_congr_left fun b hb=>?_
 have:=h b hb
 simp [UInt8.toNat_ofNat']
 omega
theorem lOf_lt (s:ByteArray):∀ b ∈ lOf s,b < 256:=by
 intro b hb
 obtain ⟨x,_,rfl⟩:=List.mem_map.1 hb
 exact x.toNat_lt
theorem lOf_length (s:ByteArray):(lOf s).length = s.size:=by unfold lOf;rw [List.length_map,tl_len]
theorem sOf_size (L:List Nat):(sOf L).size = L.length:=by unfold sOf;simp [ByteArray.size]
theorem ch_lOf (s:ByteArray) (i:Nat):ch s i = (lOf s).getD i 0:=by
 unfold ch lOf
 simp only [List.getD,List.getElem?_map]
 cases s.data.toList[i]? <;> rfl
theorem lOf_inj {a b:ByteArray} (h:lOf a = lOf b):a = b:=by rw [← sOf_lOf a,← sOf_lOf b,h]
theorem lOf_append (a b:ByteArray):lOf (a ++ b) = lOf a ++ lOf b:=by
 unfold lOf
 rw [ByteArray.data_append,Array.toList_append,List.map_append]
theorem lOf_extract (s:ByteArray) (a b:Nat):lOf (s.extract a b) = ((lOf s).drop a).take (b - a):=by
 unfold lOf
 rw [list_ext,List.map_take,List.map_drop]
theorem sOf_append (a b:List Nat):sOf (a ++ b) = sOf a ++ sOf b:=by
 apply ba_ext
 rw [ByteArray.data_append,Array.toList_append]
 unfold sOf
 simp
theorem byteCells_lOf (s:ByteArray):byteCells s = (lOf s).map cU:=by
 unfold byteCells lOf cU
 rw [List.map_map];rfl
theorem cU_one (L:List Nat):∀ u ∈ L.map cU,u.oneCell' = true:=by
 intro u hu
 obtain ⟨_,_,rfl⟩:=List.mem_map.1 hu
 rfl
theorem info5:∃ i,Tryz.prog.info? 5 = some i ∧ i.zero = some (.int .u8 0) ∧ i.size = 1 ∧ i.bytes = 1:=by
 have h:(Tryz.prog.info? 5).map (fun i=>(i.zero,i.size,i.bytes)) = some (some (.int .u8 0),1,1):=by kernel_rfl
 obtain ⟨i,hi,hz⟩:=Option.map_eq_some_iff.1 h
 simp only [Prod.mk.injEq] at hz
 exact ⟨i,hi,hz.1,hz.2.1,hz.2.2⟩
theorem rowIs_setCells {b:Nat} {t:TypeId} {n:Nat}:∀ (vs:List Value) (o:Nat) (f:Nat → Value) (w:World),w.rowIs b t n f → (w.setCells b o vs).rowIs b t n (fun j=>if o ≤ j ∧ j < o + vs.length then vs.getD (j - o) (f j) else f j)
 | [],o,f,w,h=>h.congr fun j _=>by rw [if_neg (by simp)]
 | v :: vs,o,f,w,h=>by
  refine (rowIs_setCells vs (o + 1) _ _ (h.set o v)).congr fun j _=>?_
  simp only [List.length_cons]
  by_cases e:j = o
  ·subst e
   rw [if_neg (by omega),if_pos rfl,if_pos (by omega),Nat.sub_self];rfl
  ·by_cases c:o + 1 ≤ j ∧ j < o + 1 + vs.length
   ·have hl:j - (o + 1) < vs.length:=by omega
    rw [if_pos c,if_pos (show o ≤ j ∧ j < o + (vs.length + 1) by omega),show j - o = (j - (o + 1)) + 1 by omega]
    simp [List.getD,List.getElem?_eq_getElem hl]
   ·rw [if_neg c,if_neg e,if_neg (by omega)]
theorem below_setCells {B b:Nat} {a:World} (hB:B ≤ b):∀ (vs:List Value) (o:Nat) (w:World),Below B a w → Below B a (w.setCells b o vs)
 | [],_,_,h=>h
 | v :: r,o,_,h=>below_setCells hB r (o + 1) _ (h.setCell hB v)
def Buf (w:World) (B:Nat) (v:Value) (L:List Nat):Prop:=w.ownsRow B 5 1 v L.length (L.map cU)
theorem Buf.nil (w:World) (B:Nat):Buf w B (.slice none 0 0) []:=World.ownsRow_nil w B _ 1
theorem Buf.below {w w':World} {B:Nat} {v:Value} {L:List Nat} (h:Buf w B v L) (hb:Below w.heap.size w w'):Buf w' B v L:=by
 refine World.ownsRow.kept (row:=none) h ⟨hb.os,hb.tape,hb.output,hb.size,fun k hk _=>hb.block k hk⟩ ?_
 cases hv:v.ownBlock <;> simp
theorem Buf.conv {w:World} {B:Nat} {v:Value} {L:List Nat} (h:Buf w B v L):(convert 59 9 v).run Tryz.prog w = .ok (.string (sOf L)) w:=by
 rcases h.2 with ⟨rfl,h0⟩ | ⟨g,cap,cur,rfl,hb,hg,hn,hm,hs,ht⟩
 ·obtain rfl:L = []:=List.length_eq_zero_iff.1 h0
  exact run_convert_bytes_nil w 59 5 Tryz.underlying59 Tryz.underlying5 0 0 9 Tryz.underlying9
 ·have:=run_convert_bytes_arg w 59 5 Tryz.underlying59 Tryz.underlying5 g 0 L.length cap (L.map Int.ofNat) (by simp) (fun i hi=>by
   have hx:(L.map cU)[i]? = some (cU L[i]):=by simp [hi]
   have:=World.ownsRow.cells h (g:=g) rfl i _ hx
   have hadd:(⟨g,0,none⟩:Addr).add i = ⟨g,i,none⟩:=by unfold Addr.add;split <;> simp_all
   rw [hadd] at this
   rw [Nat.zero_add,this]
   simp [cU,List.getD,hi]) 9 Tryz.underlying9
  have e:strOfNums (L.map Int.ofNat) = sOf L:=by
   unfold strOfNums sOf
   simp [Function.comp_def]
  rw [this,e]
theorem Buf.append {w:World} {B:Nat} {v:Value} {L:List Nat} (h:Buf w B v L) {tx:TypeId} {x:Value} {M:List Nat} (S:Src Tryz.prog 1 tx x M.length (M.map cU) w) (hl:L.length + M.length ≤ 140737488355328) (hB:B ≤ w.heap.size) :
  ∃ v' w',(∀ ty,(Builtin.append_ #[59,tx] ty #[v,x]).run Tryz.prog w = .ok v' w') ∧ (Buf w' B v' (L ++ M) ∧ Below B w w'):=by
 obtain ⟨i,hi,hz,hsz,hby⟩:=info5
 have S':Src Tryz.prog i.size tx x M.length (M.map cU) w:=by rw [hsz];exact S
 have hlen:(L ++ M).map cU = L.map cU ++ M.map cU:=List.map_append
 have grow:∀ (base:Option Addr) (sCap:Nat),v = .slice base L.length sCap → sCap < L.length + M.length →
   (Builtin.firstCells i.size L.length (.slice base L.length sCap)).run Tryz.prog w.drew = .ok (L.map cU).toArray w.drew →
   ∃ v' w',(∀ ty,(Builtin.append_ #[59,tx] ty #[v,x]).run Tryz.prog w = .ok v' w') ∧ (Buf w' B v' (L ++ M) ∧ Below B w w'):=by
  rintro base sCap rfl hlt hold
  have hfit:Builtin.nextslicecap (L.length + M.length) sCap * i.bytes ≤ 281474976710656:=by
   have:=growslice_fits (bytes:=1) hlt (by omega)
   rw [hby];exact this
  have ge:=grownCap_ge w (L.length + M.length) sCap 5
  have le:=grownCap_le_maxLen w (L.length + M.length) sCap 5 (by unfold maxLen;omega)
  refine ⟨_,_,fun ty=>run_append_grow_src w 59 tx ty 5 i (.int .u8 0) Tryz.underlying59 hi hz base L.length sCap _ hold x M.length _ S' hlt (by omega) hfit,⟨?_,?_⟩,(Below.refl _ _).drew.alloc hB _⟩
  ·rw [List.length_map,List.length_append,Nat.mul_one]
  ·refine .inr ⟨w.heap.size,_,_,by rw [List.length_append],hB,heap_alloc_new w.drew _,by rw [List.length_append];exact ge,le,?_,?_⟩
   ·simp only [Array.size_append,List.size_toArray,size_zeroCells]
    rw [List.length_append,List.length_map,List.length_map,show (Value.int .u8 0).cells.size = 1 from rfl]
    omega
   ·rw [Nat.mul_one,Array.toList_append,List.take_append_of_le_length (by simp),hlen,List.take_of_length_le (by simp)]
 rcases h.2 with ⟨rfl,h0⟩ | ⟨g,cap,cur,rfl,hb,hg,hn,hm,hs,ht⟩
 ·obtain rfl:L = []:=List.length_eq_zero_iff.1 h0
  by_cases hM:M.length = 0
  ·obtain rfl:M = []:=List.length_eq_zero_iff.1 hM
   refine ⟨.slice none 0 0,w,fun ty=>?_,h,Below.refl _ _⟩
   have hln:∀ w':World,(Builtin.lenOf x).run Tryz.prog w' = .ok 0 w':=S'.len
   have hcl:(Builtin.firstCells i.size 0 x).run Tryz.prog w = .ok #[] w:=S'.cells
   rcases S'.kind with ⟨e',hk⟩ | hk <;>
    simp [Builtin.append_,run_underlying Tryz.underlying59,run_underlying hk,sizeOf,typeInfo,hi,hln,hcl]
  ·exact grow none 0 rfl (by simp;omega) (by simpa using run_firstCells_none w.drew i.size 0 0 0)
 ·by_cases hroom:L.length + M.length ≤ cap
  ·have hcs:cur.size = cap:=by rw [hs,Nat.mul_one]
   refine ⟨_,_,fun ty=>run_append_room_src w 59 tx ty 5 i Tryz.underlying59 hi g 0 L.length cap x M.length _ S' hroom (fun j hj=>?_) (fun j hj=>?_),⟨?_,?_⟩,?_⟩
   ·rw [hsz,Nat.zero_add,Nat.mul_one,cell_of_row w g _ cur _ (0,0) hg]
    rw [List.length_map] at hj
    have:L.length + j < cur.size:=by omega
    simp [this]
   ·unfold World.frozen?
    simp [hg]
   ·rw [List.length_map,List.length_append,Nat.mul_one]
   ·rw [hsz,Nat.zero_add,Nat.mul_one]
    have R:w.rowIs g 5 cap (fun j=>cur.toList.getD j (.int .u8 0)):=⟨cur,hg,hcs,fun j hj=>by
     have:j < cur.size:=by omega
     simp [List.getD,this]⟩
    obtain ⟨cur',h1,h2,h3⟩:=rowIs_setCells (M.map cU) L.length _ _ R
    refine .inr ⟨g,cap,cur',by rw [List.length_append],hb,h1,by rw [List.length_append];exact hroom,hm,by rw [h2,Nat.mul_one],?_⟩
    rw [List.length_append,Nat.mul_one,hlen]
    rw [Nat.mul_one] at ht
    apply List.ext_getElem?
    intro j
    by_cases hj:j < L.length + M.length
    ·have hj2:j < cap:=by omega
     have hj3:=h3 j hj2
     rw [List.getElem?_take_of_lt hj,Array.getElem?_toList,hj3]
     dsimp only
     by_cases hjl:j < L.length
     ·rw [if_neg (by omega),List.getElem?_append_left (by simpa using hjl),← ht,List.getElem?_take_of_lt hjl]
      have:j < cur.size:=by omega
      simp [List.getD,this]
     ·rw [if_pos ⟨by omega,by simpa using hj⟩,List.getElem?_append_right (by simpa using hjl),List.length_map]
      have:j - L.length < (M.map cU).length:=by simp;omega
      simp [List.getD,show j - L.length < M.length by omega]
    ·rw [List.getElem?_eq_none (by simp;omega),List.getElem?_eq_none (by simp;omega)]
   ·exact below_setCells hb _ _ _ (Below.refl _ _)
  ·refine grow (some ⟨g,0,none⟩) cap rfl (by omega) ?_
   refine run_firstCells_some w.drew i.size L.length ⟨g,0,none⟩ L.length cap _ (by rw [List.length_map,hsz,Nat.mul_one]) (fun j u hu=>?_)
   have:=World.ownsRow.cells h (g:=g) rfl j u hu
   simpa using this
theorem begins_short (k lo hi:Nat) (s:ByteArray) (w:World) (h:s.size < k):Calls Tryz.prog 108 #[rowV k lo hi,.string s] w fun e w'=>e = .returned (.bool (begB k lo hi s)) ∧ Below w.heap.size w w':=by
 have hb:begB k lo hi s = false:=by unfold begB;rw [decide_eq_false (by omega)];rfl
 have hd:decide ((s.size:Int) < (k:Int)) = true:=by simp;omega
 rw [hb]
 go_enter Tryz.func108,Tryz.ntmps108
 go_wp2
 go_ret
 exact ⟨rfl,bel1 _ _⟩
theorem begins_0 (lo hi:Nat) (s:ByteArray) (w:World):Calls Tryz.prog 108 #[rowV 0 lo hi,.string s] w fun e w'=>e = .returned (.bool (begB 0 lo hi s)) ∧ Below w.heap.size w w':=by
 have hb:begB 0 lo hi s = false:=by unfold begB;simp
 have hd:decide ((s.size:Int) < 0) = false:=by simp
 rw [hb]
 go_enter Tryz.func108,Tryz.ntmps108
 go_wp2
 go_ret
 exact ⟨rfl,bel1 _ _⟩
theorem begins_1 (lo hi:Nat) (s:ByteArray) (w:World) (h:1 ≤ s.size):Calls Tryz.prog 108 #[rowV 1 lo hi,.string s] w fun e w'=>e = .returned (.bool (begB 1 lo hi s)) ∧ Below w.heap.size w w':=by
 have hb:begB 1 lo hi s = true:=by unfold begB;rw [decide_eq_true h];rfl
 have hd:decide ((s.size:Int) < 1) = false:=by simp;omega
 rw [hb]
 go_enter Tryz.func108,Tryz.ntmps108
 go_wp2
 go_ret
 exact ⟨rfl,bel1 _ _⟩
theorem bdN {B:Nat} {a w:World} (h:Below B a w) (n:Nat):Below B a (w.drewN n):=⟨h.os,h.tape,h.output,h.size,h.block⟩
theorem begins_2 (lo hi:Nat) (s:ByteArray) (w:World) (h:2 ≤ s.size):Calls Tryz.prog 108 #[rowV 2 lo hi,.string s] w fun e w'=>e = .returned (.bool (begB 2 lo hi s)) ∧ Below w.heap.size w w':=by
 have hb:begB 2 lo hi s = (decide (lo ≤ ch s 1) && decide (ch s 1 ≤ hi)):=by unfold begB;rw [decide_eq_true h];simp
 have hd:decide ((s.size:Int) < 2) = false:=by simp;omega
 have i1:∀ w:World,(Instr.index 9 (.string s) (.int .i64 1)).run Tryz.prog w = .ok (.int .u8 (ch s 1:Int)) w:=fun w=>idx (w:=w) s 1 (by omega) .i64
 rw [hb]
 by_cases c1:ch s 1 < lo
 ·have d1:decide ((ch s 1:Int) < (lo:Int)) = true:=by simp;omega
  go_enter Tryz.func108,Tryz.ntmps108
  go_wp2_with (go_at_call 138;refine (isTail_any _ _).mono ?_;rintro e w' ⟨rfl,rfl⟩)
  go_quiet (fail)
  go_wp2
  go_ret
  exact ⟨ret_bool (by simp;omega),bdN (bel1 _ _) _⟩
 ·have d1:decide ((ch s 1:Int) < (lo:Int)) = false:=by simp;omega
  go_enter Tryz.func108,Tryz.ntmps108
  go_wp2_with (go_at_call 138;refine (isTail_any _ _).mono ?_;rintro e w' ⟨rfl,rfl⟩)
  go_quiet (fail)
  go_wp2
  ·go_ret
   exact ⟨ret_bool (by simp;omega),bdN (bel1 _ _) _⟩
  ·go_ret
   exact ⟨ret_bool (by simp;omega),bdN (bel1 _ _) _⟩
theorem begins_3 (lo hi:Nat) (s:ByteArray) (w:World) (h:3 ≤ s.size):Calls Tryz.prog 108 #[rowV 3 lo hi,.string s] w fun e w'=>e = .returned (.bool (begB 3 lo hi s)) ∧ Below w.heap.size w w':=by
 have hb:begB 3 lo hi s = (decide (lo ≤ ch s 1) && decide (ch s 1 ≤ hi) && tailB (ch s 2)):=by unfold begB;rw [decide_eq_true h];simp
 have hd:decide ((s.size:Int) < 3) = false:=by simp;omega
 have i1:∀ w:World,(Instr.index 9 (.string s) (.int .i64 1)).run Tryz.prog w = .ok (.int .u8 (ch s 1:Int)) w:=fun w=>idx (w:=w) s 1 (by omega) .i64
 have i2:∀ w:World,(Instr.index 9 (.string s) (.int .i64 2)).run Tryz.prog w = .ok (.int .u8 (ch s 2:Int)) w:=fun w=>idx (w:=w) s 2 (by omega) .i64
 rw [hb]
 cases t2:tailB (ch s 2)
 ·go_enter Tryz.func108,Tryz.ntmps108
  go_wp2_with (go_at_call 138;refine (isTail_any _ _).mono ?_;rintro e w' ⟨rfl,rfl⟩)
  go_ret
  exact ⟨ret_bool (by simp),bel1 _ _⟩
 ·skip
  by_cases c1:ch s 1 < lo
  ·have d1:decide ((ch s 1:Int) < (lo:Int)) = true:=by simp;omega
   go_enter Tryz.func108,Tryz.ntmps108
   go_wp2_with (go_at_call 138;refine (isTail_any _ _).mono ?_;rintro e w' ⟨rfl,rfl⟩)
   go_quiet (fail)
   go_wp2
   go_ret
   exact ⟨ret_bool (by simp;omega),bdN (bel1 _ _) _⟩
  ·have d1:decide ((ch s 1:Int) < (lo:Int)) = false:=by simp;omega
   go_enter Tryz.func108,Tryz.ntmps108
   go_wp2_with (go_at_call 138;refine (isTail_any _ _).mono ?_;rintro e w' ⟨rfl,rfl⟩)
   go_quiet (fail)
   go_wp2
   ·go_ret
    exact ⟨ret_bool (by simp;omega),bdN (bel1 _ _) _⟩
   ·go_ret
    exact ⟨ret_bool (by simp;omega),bdN (bel1 _ _) _⟩
theorem begins_4 (lo hi:Nat) (s:ByteArray) (w:World) (h:4 ≤ s.size):Calls Tryz.prog 108 #[rowV 4 lo hi,.string s] w fun e w'=>e = .returned (.bool (begB 4 lo hi s)) ∧ Below w.heap.size w w':=by
 have hb:begB 4 lo hi s = (decide (lo ≤ ch s 1) && decide (ch s 1 ≤ hi) && tailB (ch s 2) && tailB (ch s 3)):=by unfold begB;rw [decide_eq_true h];simp
 have hd:decide ((s.size:Int) < 4) = false:=by simp;omega
 have i1:∀ w:World,(Instr.index 9 (.string s) (.int .i64 1)).run Tryz.prog w = .ok (.int .u8 (ch s 1:Int)) w:=fun w=>idx (w:=w) s 1 (by omega) .i64
 have i2:∀ w:World,(Instr.index 9 (.string s) (.int .i64 2)).run Tryz.prog w = .ok (.int .u8 (ch s 2:Int)) w:=fun w=>idx (w:=w) s 2 (by omega) .i64
 have i3:∀ w:World,(Instr.index 9 (.string s) (.int .i64 3)).run Tryz.prog w = .ok (.int .u8 (ch s 3:Int)) w:=fun w=>idx (w:=w) s 3 (by omega) .i64
 rw [hb]
 cases t3:tailB (ch s 3)
 ·go_enter Tryz.func108,Tryz.ntmps108
  go_wp2_with (go_at_call 138;refine (isTail_any _ _).mono ?_;rintro e w' ⟨rfl,rfl⟩)
  go_ret
  exact ⟨ret_bool (by simp),bel1 _ _⟩
 ·skip
  cases t2:tailB (ch s 2)
  ·go_enter Tryz.func108,Tryz.ntmps108
   go_wp2_with (go_at_call 138;refine (isTail_any _ _).mono ?_;rintro e w' ⟨rfl,rfl⟩)
   go_ret
   exact ⟨ret_bool (by simp),bel1 _ _⟩
  ·skip
   by_cases c1:ch s 1 < lo
   ·have d1:decide ((ch s 1:Int) < (lo:Int)) = true:=by simp;omega
    go_enter Tryz.func108,Tryz.ntmps108
    go_wp2_with (go_at_call 138;refine (isTail_any _ _).mono ?_;rintro e w' ⟨rfl,rfl⟩)
    go_quiet (fail)
    go_wp2
    go_ret
    exact ⟨ret_bool (by simp;omega),bdN (bel1 _ _) _⟩
   ·have d1:decide ((ch s 1:Int) < (lo:Int)) = false:=by simp;omega
    go_enter Tryz.func108,Tryz.ntmps108
    go_wp2_with (go_at_call 138;refine (isTail_any _ _).mono ?_;rintro e w' ⟨rfl,rfl⟩)
    go_quiet (fail)
    go_wp2
    ·go_ret
     exact ⟨ret_bool (by simp;omega),bdN (bel1 _ _) _⟩
    ·go_ret
     exact ⟨ret_bool (by simp;omega),bdN (bel1 _ _) _⟩
theorem begins_any (k lo hi:Nat) (hk:k ≤ 4) (s:ByteArray) (w:World):Calls Tryz.prog 108 #[rowV k lo hi,.string s] w fun e w'=>e = .returned (.bool (begB k lo hi s)) ∧ Below w.heap.size w w':=by
 by_cases h:s.size < k
 ·exact begins_short k lo hi s w h
 ·have:k = 0 ∨ k = 1 ∨ k = 2 ∨ k = 3 ∨ k = 4:=by omega
  rcases this with rfl | rfl | rfl | rfl | rfl
  ·exact begins_0 lo hi s w
  ·exact begins_1 lo hi s w (by omega)
  ·exact begins_2 lo hi s w (by omega)
  ·exact begins_3 lo hi s w (by omega)
  ·exact begins_4 lo hi s w (by omega)
theorem bcell {W w1:World} (hb:Below W.heap.size W w1):(∀ b o,b < W.heap.size → w1.cell? ⟨b,o,none⟩ = W.cell? ⟨b,o,none⟩) ∧ (∀ b o,b < W.heap.size → w1.frozen? ⟨b,o,none⟩ = W.frozen? ⟨b,o,none⟩) :=
 ⟨fun b o h=>hb.cell (p:=⟨b,o,none⟩) h,fun b o h=>hb.frozen (p:=⟨b,o,none⟩) h⟩
theorem sequence_no (s:ByteArray) (w:World) (h:1 ≤ s.size) (hb:begB (rsz (ch s 0)) (rlo (ch s 0)) (rhi (ch s 0)) s = false) :
  Calls Tryz.prog 84 #[.string s] w fun e w'=>e = .returned (.tuple #[.int .i64 ((seqN s).1:Nat),.int .i64 ((seqN s).2:Nat)]) ∧ Below w.heap.size w w':=by
 have hs:seqN s = (0,0):=by unfold seqN;dsimp only;rw [hb];rfl
 rw [hs]
 have i0:∀ w:World,(Instr.index 9 (.string s) (.int .i64 0)).run Tryz.prog w = .ok (.int .u8 (ch s 0:Int)) w:=fun w=>idx (w:=w) s 0 (by omega) .i64
 go_enter Tryz.func84,Tryz.ntmps84
 go_wp2_with (first | (go_at_call 107;refine (rowOf_any _ _).mono ?_;rintro e w1 ⟨rfl,hb1⟩) | (go_at_call 108;refine (begins_any _ _ _ (rsz_le _) _ _).mono ?_;rintro e w2 ⟨rfl,hb2⟩;obtain ⟨hc,hf⟩:=bcell hb2))
 go_ret2
 exact ⟨rfl,hb1.trans (((Below.refl _ _).alloc (Nat.le_refl _) _).trans (hb2.mono (by simp)) |>.mono hb1.size)⟩
theorem sequence_one (s:ByteArray) (w:World) (h:1 ≤ s.size) (hb:begB (rsz (ch s 0)) (rlo (ch s 0)) (rhi (ch s 0)) s = true) (h1:rsz (ch s 0) = 1) :
  Calls Tryz.prog 84 #[.string s] w fun e w'=>e = .returned (.tuple #[.int .i64 ((seqN s).1:Nat),.int .i64 ((seqN s).2:Nat)]) ∧ Below w.heap.size w w':=by
 have hs:seqN s = (ch s 0,1):=by unfold seqN;dsimp only;rw [hb,if_pos rfl,if_pos h1]
 rw [hs]
 rw [h1] at hb
 have i0:∀ w:World,(Instr.index 9 (.string s) (.int .i64 0)).run Tryz.prog w = .ok (.int .u8 (ch s 0:Int)) w:=fun w=>idx (w:=w) s 0 (by omega) .i64
 have hlt:=ch_lt s 0
 go_enter Tryz.func84,Tryz.ntmps84
 go_wp2_with (first | (go_at_call 107;refine (rowOf_any _ _).mono ?_;rintro e w1 ⟨rfl,hb1⟩;rw [h1]) | (go_at_call 108;refine (begins_any _ _ _ (by decide) _ _).mono ?_;rintro e w2 ⟨rfl,hb2⟩;obtain ⟨hc,hf⟩:=bcell hb2))
 go_ret2
 exact ⟨rfl,hb1.trans (((Below.refl _ _).alloc (Nat.le_refl _) _).trans (hb2.mono (by simp)) |>.mono hb1.size)⟩
theorem i64_and_nat (a b:Nat) (ha:a < 9223372036854775808) (hb:b < 9223372036854775808):bits .and .i64 (a:Int) (b:Int) = ((a &&& b:Nat):Int):=by
 have hx:a &&& b < 2 ^ 63:=Nat.and_lt_two_pow _ (by omega)
 show IntKind.i64.wrap ((BitVec.ofInt 64 (a:Int) &&& BitVec.ofInt 64 (b:Int)).toNat:Int) = _
 rw [BitVec.toNat_and,ofInt_u64 a (by omega),ofInt_u64 b (by omega),IntKind.wrap_i64]
 omega
theorem i64_or_nat (a b:Nat) (ha:a < 9223372036854775808) (hb:b < 9223372036854775808):bits .or .i64 (a:Int) (b:Int) = ((a ||| b:Nat):Int):=by
 have hx:a ||| b < 2 ^ 63:=Nat.or_lt_two_pow (by omega) (by omega)
 show IntKind.i64.wrap ((BitVec.ofInt 64 (a:Int) ||| BitVec.ofInt 64 (b:Int)).toNat:Int) = _
 rw [BitVec.toNat_or,ofInt_u64 a (by omega),ofInt_u64 b (by omega),IntKind.wrap_i64]
 omega
theorem conv_bytes (t:ByteArray) (W:World):(convert 9 59 (.string t)).run Tryz.prog W = .ok (.slice (some ⟨W.heap.size,0,none⟩) t.size (grownCap W t.size 0 5)) (Lib.bytesWorld W 5 t) :=
 Lib.run_convert_string_bytes W 9 59 5 t Tryz.underlying9 Tryz.underlying59 Tryz.underlying5
theorem acc_or (c:Nat) (s:ByteArray) (i:Nat) (h:accN c s i < 144115188075855872):bits .or .i64 ((accN c s i:Int) * 64) ((ch s (i + 1):Int) % 64) = (accN c s (i + 1):Nat):=by
 have h2:ch s (i + 1) % 64 < 64:=Nat.mod_lt _ (by decide)
 rw [show ((accN c s i:Int) * 64) = ((accN c s i * 64:Nat):Int) by simp,show ((ch s (i + 1):Int) % 64) = ((ch s (i + 1) % 64:Nat):Int) by simp,i64_or_nat _ _ (by omega) (by omega),nat_join 6 _ _ (by omega) (by omega)]
 rfl
theorem u8_and63 (c:Nat) (h:c < 256):bits .and .u8 (c:Int) 63 = ((c % 64:Nat):Int):=by
 rw [show (63:Int) = ((63:Nat):Int) from rfl,u8_and_nat c 63 h (by decide)]
 congr 1
 exact Nat.and_two_pow_sub_one_eq_mod c 6
theorem i64_and31 (c:Nat) (h:c < 256):bits .and .i64 (c:Int) 31 = ((c % 32:Nat):Int):=by
 rw [show (31:Int) = ((31:Nat):Int) from rfl,i64_and_nat c 31 (by omega) (by decide)]
 congr 1
 exact Nat.and_two_pow_sub_one_eq_mod c 5
theorem sequence_2 (s:ByteArray) (w:World) (_:1 ≤ s.size) (hb:begB (rsz (ch s 0)) (rlo (ch s 0)) (rhi (ch s 0)) s = true) (h1:rsz (ch s 0) = 2) :
  Calls Tryz.prog 84 #[.string s] w fun e w'=>e = .returned (.tuple #[.int .i64 ((seqN s).1:Nat),.int .i64 ((seqN s).2:Nat)]) ∧ Below w.heap.size w w':=by
 have hs:seqN s = (accN (ch s 0 % 32) s 1,2):=by unfold seqN;dsimp only;rw [hb,if_pos rfl,h1,if_neg (by decide)]
 rw [hs]
 rw [h1] at hb
 have hsz:2 ≤ s.size:=by unfold begB at hb;simp only [Bool.and_eq_true,decide_eq_true_eq] at hb;exact hb.1
 have i0:∀ w:World,(Instr.index 9 (.string s) (.int .i64 0)).run Tryz.prog w = .ok (.int .u8 (ch s 0:Int)) w:=fun w=>idx (w:=w) s 0 (by omega) .i64
 have hlt:=ch_lt s 0
 have hand:=i64_and31 (ch s 0) hlt
 have hsl:∀ w:World,(Instr.slice 9 (.string s) (some (.int .i64 1)) (some (.int .i64 2)) none).run Tryz.prog w = .ok (.string (s.extract 1 2)) w:=fun w=>run_slice_string w 9 s .i64 .i64 1 2 Tryz.underlying9 (by decide) (by decide) (by omega)
 have hez:(s.extract 1 2).size = 1:=size_ext s 1 2 hsz
 have hcv:=fun W=>conv_bytes (s.extract 1 2) W
 have hbc:Hid (∀ (W:World) j,j < 1 → (Lib.bytesWorld W 5 (s.extract 1 2)).cell? ⟨W.heap.size,j,none⟩ = some (.int .u8 (ch s (j + 1)))):=fun W j hj=>by
  rw [Lib.bytesWorld_cell W _ _ j (by rw [hez];exact hj)]
  have:=ch_ext s 1 2 j (by omega)
  unfold ch at this ⊢
  rw [this,Nat.add_comm]
 have hbo:Hid (∀ (W:World) b o,b < W.heap.size → (Lib.bytesWorld W 5 (s.extract 1 2)).cell? ⟨b,o,none⟩ = W.cell? ⟨b,o,none⟩):=fun W b o hl=>Lib.bytesWorld_old W _ _ ⟨b,o,none⟩ hl
 go_enter Tryz.func84,Tryz.ntmps84
 go_wp2_with (first | (go_at_call 107;refine (rowOf_any _ _).mono ?_;rintro e w1 ⟨rfl,hb1⟩;rw [h1]) | (go_at_call 108;refine (begins_any _ _ _ (by decide) _ _).mono ?_;rintro e w2 ⟨rfl,hb2⟩;obtain ⟨hc,hf⟩:=bcell hb2))
 go_quiet (fail)
 go_wp2
 have hlw:w1.heap.size < w2.heap.size:=Nat.lt_of_lt_of_le (by simp) hb2.size
 have hbo2:∀ n o,(Lib.bytesWorld (w2.drewN n) 5 (s.extract 1 2)).cell? ⟨w1.heap.size,o,none⟩ = w2.cell? ⟨w1.heap.size,o,none⟩:=fun n o=>hbo.out (w2.drewN n) _ o hlw
 have B3:Hid (Below w.heap.size w (Lib.bytesWorld (w2.drewN nq) 5 (s.extract 1 2))):=by
  have B1:=hb1.trans (((Below.refl _ _).alloc (Nat.le_refl _) _).trans (hb2.mono (by simp)) |>.mono hb1.size)
  have B2:Below w.heap.size w (w2.drewN nq):=bdN B1 _
  exact B2.trans ((Lib.bytesWorld_below (w2.drewN nq) _ _).mono B1.size)
 go_loop [2,35] (fun n i=>∃ k:Nat,k ≤ 1 ∧ i = .int .i64 k ∧ n = .int .i64 (accN (ch s 0 % 32) s k:Nat)) (fun _ i=>1 - (intOf i).toNat)
 case atStart=>exact ⟨0,by omega,rfl,rfl⟩
 case round =>
  obtain ⟨k,hk,rfl,rfl⟩:=hrel
  have hab:=accN_lt (ch s 0 % 32) s (by omega) k
  have hp:(64:Nat) ^ k ≤ 64 ^ 3:=Nat.pow_le_pow_right (by decide) (by omega)
  by_cases hlt:k < 1
  ·have hbk:∀ n,(Lib.bytesWorld (w2.drewN n) 5 (s.extract 1 2)).cell? ⟨w2.heap.size,k,none⟩ = some (.int .u8 (ch s (k + 1))):=fun n=>hbc.out (w2.drewN n) k hlt
   have hor:=acc_or (ch s 0 % 32) s k (by omega)
   have hc63:=u8_and63 (ch s (k + 1)) (ch_lt _ _)
   go_wp2
   go_round
   case rel=>exact ⟨k + 1,by omega,by go_num,rfl⟩
   case measure=>simp [intOf];omega
  ·obtain rfl:k = 1:=by omega
   go_wp2
   go_quiet (fail)
   go_wp2
   go_ret2
   refine ⟨rfl,?_⟩
   exact bdN B3.out _
theorem i64_and15 (c:Nat) (h:c < 256):bits .and .i64 (c:Int) 15 = ((c % 16:Nat):Int):=by
 rw [show (15:Int) = ((15:Nat):Int) from rfl,i64_and_nat c 15 (by omega) (by decide)]
 congr 1
 exact Nat.and_two_pow_sub_one_eq_mod c 4
theorem sequence_3 (s:ByteArray) (w:World) (_:1 ≤ s.size) (hb:begB (rsz (ch s 0)) (rlo (ch s 0)) (rhi (ch s 0)) s = true) (h1:rsz (ch s 0) = 3) :
  Calls Tryz.prog 84 #[.string s] w fun e w'=>e = .returned (.tuple #[.int .i64 ((seqN s).1:Nat),.int .i64 ((seqN s).2:Nat)]) ∧ Below w.heap.size w w':=by
 have hs:seqN s = (accN (ch s 0 % 16) s 2,3):=by unfold seqN;dsimp only;rw [hb,if_pos rfl,h1,if_neg (by decide)]
 rw [hs]
 rw [h1] at hb
 have hsz:3 ≤ s.size:=by unfold begB at hb;simp only [Bool.and_eq_true,decide_eq_true_eq] at hb;exact hb.1
 have i0:∀ w:World,(Instr.index 9 (.string s) (.int .i64 0)).run Tryz.prog w = .ok (.int .u8 (ch s 0:Int)) w:=fun w=>idx (w:=w) s 0 (by omega) .i64
 have hlt:=ch_lt s 0
 have hand:=i64_and15 (ch s 0) hlt
 have hsl:∀ w:World,(Instr.slice 9 (.string s) (some (.int .i64 1)) (some (.int .i64 3)) none).run Tryz.prog w = .ok (.string (s.extract 1 3)) w:=fun w=>run_slice_string w 9 s .i64 .i64 1 3 Tryz.underlying9 (by decide) (by decide) (by omega)
 have hez:(s.extract 1 3).size = 2:=size_ext s 1 3 hsz
 have hcv:=fun W=>conv_bytes (s.extract 1 3) W
 have hbc:Hid (∀ (W:World) j,j < 2 → (Lib.bytesWorld W 5 (s.extract 1 3)).cell? ⟨W.heap.size,j,none⟩ = some (.int .u8 (ch s (j + 1)))):=fun W j hj=>by
  rw [Lib.bytesWorld_cell W _ _ j (by rw [hez];exact hj)]
  have:=ch_ext s 1 3 j (by omega)
  unfold ch at this ⊢
  rw [this,Nat.add_comm]
 have hbo:Hid (∀ (W:World) b o,b < W.heap.size → (Lib.bytesWorld W 5 (s.extract 1 3)).cell? ⟨b,o,none⟩ = W.cell? ⟨b,o,none⟩):=fun W b o hl=>Lib.bytesWorld_old W _ _ ⟨b,o,none⟩ hl
 go_enter Tryz.func84,Tryz.ntmps84
 go_wp2_with (first | (go_at_call 107;refine (rowOf_any _ _).mono ?_;rintro e w1 ⟨rfl,hb1⟩;rw [h1]) | (go_at_call 108;refine (begins_any _ _ _ (by decide) _ _).mono ?_;rintro e w2 ⟨rfl,hb2⟩;obtain ⟨hc,hf⟩:=bcell hb2))
 go_quiet (fail)
 go_wp2
 have hlw:w1.heap.size < w2.heap.size:=Nat.lt_of_lt_of_le (by simp) hb2.size
 have hbo2:∀ n o,(Lib.bytesWorld (w2.drewN n) 5 (s.extract 1 3)).cell? ⟨w1.heap.size,o,none⟩ = w2.cell? ⟨w1.heap.size,o,none⟩:=fun n o=>hbo.out (w2.drewN n) _ o hlw
 have B3:Hid (Below w.heap.size w (Lib.bytesWorld (w2.drewN nq) 5 (s.extract 1 3))):=by
  have B1:=hb1.trans (((Below.refl _ _).alloc (Nat.le_refl _) _).trans (hb2.mono (by simp)) |>.mono hb1.size)
  have B2:Below w.heap.size w (w2.drewN nq):=bdN B1 _
  exact B2.trans ((Lib.bytesWorld_below (w2.drewN nq) _ _).mono B1.size)
 go_loop [2,35] (fun n i=>∃ k:Nat,k ≤ 2 ∧ i = .int .i64 k ∧ n = .int .i64 (accN (ch s 0 % 16) s k:Nat)) (fun _ i=>2 - (intOf i).toNat)
 case atStart=>exact ⟨0,by omega,rfl,rfl⟩
 case round =>
  obtain ⟨k,hk,rfl,rfl⟩:=hrel
  have hab:=accN_lt (ch s 0 % 16) s (by omega) k
  have hp:(64:Nat) ^ k ≤ 64 ^ 3:=Nat.pow_le_pow_right (by decide) (by omega)
  by_cases hlt:k < 2
  ·have hbk:∀ n,(Lib.bytesWorld (w2.drewN n) 5 (s.extract 1 3)).cell? ⟨w2.heap.size,k,none⟩ = some (.int .u8 (ch s (k + 1))):=fun n=>hbc.out (w2.drewN n) k hlt
   have hor:=acc_or (ch s 0 % 16) s k (by omega)
   have hc63:=u8_and63 (ch s (k + 1)) (ch_lt _ _)
   go_wp2
   go_round
   case rel=>exact ⟨k + 1,by omega,by go_num,rfl⟩
   case measure=>simp [intOf];omega
  ·obtain rfl:k = 2:=by omega
   go_wp2
   go_quiet (fail)
   go_wp2
   go_ret2
   refine ⟨rfl,?_⟩
   exact bdN B3.out _
theorem i64_and7 (c:Nat) (h:c < 256):bits .and .i64 (c:Int) 7 = ((c % 8:Nat):Int):=by
 rw [show (7:Int) = ((7:Nat):Int) from rfl,i64_and_nat c 7 (by omega) (by decide)]
 congr 1
 exact Nat.and_two_pow_sub_one_eq_mod c 3
theorem sequence_4 (s:ByteArray) (w:World) (_:1 ≤ s.size) (hb:begB (rsz (ch s 0)) (rlo (ch s 0)) (rhi (ch s 0)) s = true) (h1:rsz (ch s 0) = 4) :
  Calls Tryz.prog 84 #[.string s] w fun e w'=>e = .returned (.tuple #[.int .i64 ((seqN s).1:Nat),.int .i64 ((seqN s).2:Nat)]) ∧ Below w.heap.size w w':=by
 have hs:seqN s = (accN (ch s 0 % 8) s 3,4):=by unfold seqN;dsimp only;rw [hb,if_pos rfl,h1,if_neg (by decide)]
 rw [hs]
 rw [h1] at hb
 have hsz:4 ≤ s.size:=by unfold begB at hb;simp only [Bool.and_eq_true,decide_eq_true_eq] at hb;exact hb.1
 have i0:∀ w:World,(Instr.index 9 (.string s) (.int .i64 0)).run Tryz.prog w = .ok (.int .u8 (ch s 0:Int)) w:=fun w=>idx (w:=w) s 0 (by omega) .i64
 have hlt:=ch_lt s 0
 have hand:=i64_and7 (ch s 0) hlt
 have hsl:∀ w:World,(Instr.slice 9 (.string s) (some (.int .i64 1)) (some (.int .i64 4)) none).run Tryz.prog w = .ok (.string (s.extract 1 4)) w:=fun w=>run_slice_string w 9 s .i64 .i64 1 4 Tryz.underlying9 (by decide) (by decide) (by omega)
 have hez:(s.extract 1 4).size = 3:=size_ext s 1 4 hsz
 have hcv:=fun W=>conv_bytes (s.extract 1 4) W
 have hbc:Hid (∀ (W:World) j,j < 3 → (Lib.bytesWorld W 5 (s.extract 1 4)).cell? ⟨W.heap.size,j,none⟩ = some (.int .u8 (ch s (j + 1)))):=fun W j hj=>by
  rw [Lib.bytesWorld_cell W _ _ j (by rw [hez];exact hj)]
  have:=ch_ext s 1 4 j (by omega)
  unfold ch at this ⊢
  rw [this,Nat.add_comm]
 have hbo:Hid (∀ (W:World) b o,b < W.heap.size → (Lib.bytesWorld W 5 (s.extract 1 4)).cell? ⟨b,o,none⟩ = W.cell? ⟨b,o,none⟩):=fun W b o hl=>Lib.bytesWorld_old W _ _ ⟨b,o,none⟩ hl
 go_enter Tryz.func84,Tryz.ntmps84
 go_wp2_with (first | (go_at_call 107;refine (rowOf_any _ _).mono ?_;rintro e w1 ⟨rfl,hb1⟩;rw [h1]) | (go_at_call 108;refine (begins_any _ _ _ (by decide) _ _).mono ?_;rintro e w2 ⟨rfl,hb2⟩;obtain ⟨hc,hf⟩:=bcell hb2))
 go_quiet (fail)
 go_wp2
 have hlw:w1.heap.size < w2.heap.size:=Nat.lt_of_lt_of_le (by simp) hb2.size
 have hbo2:∀ n o,(Lib.bytesWorld (w2.drewN n) 5 (s.extract 1 4)).cell? ⟨w1.heap.size,o,none⟩ = w2.cell? ⟨w1.heap.size,o,none⟩:=fun n o=>hbo.out (w2.drewN n) _ o hlw
 have B3:Hid (Below w.heap.size w (Lib.bytesWorld (w2.drewN nq) 5 (s.extract 1 4))):=by
  have B1:=hb1.trans (((Below.refl _ _).alloc (Nat.le_refl _) _).trans (hb2.mono (by simp)) |>.mono hb1.size)
  have B2:Below w.heap.size w (w2.drewN nq):=bdN B1 _
  exact B2.trans ((Lib.bytesWorld_below (w2.drewN nq) _ _).mono B1.size)
 go_loop [2,35] (fun n i=>∃ k:Nat,k ≤ 3 ∧ i = .int .i64 k ∧ n = .int .i64 (accN (ch s 0 % 8) s k:Nat)) (fun _ i=>3 - (intOf i).toNat)
 case atStart=>exact ⟨0,by omega,rfl,rfl⟩
 case round =>
  obtain ⟨k,hk,rfl,rfl⟩:=hrel
  have hab:=accN_lt (ch s 0 % 8) s (by omega) k
  have hp:(64:Nat) ^ k ≤ 64 ^ 3:=Nat.pow_le_pow_right (by decide) (by omega)
  by_cases hlt:k < 3
  ·have hbk:∀ n,(Lib.bytesWorld (w2.drewN n) 5 (s.extract 1 4)).cell? ⟨w2.heap.size,k,none⟩ = some (.int .u8 (ch s (k + 1))):=fun n=>hbc.out (w2.drewN n) k hlt
   have hor:=acc_or (ch s 0 % 8) s k (by omega)
   have hc63:=u8_and63 (ch s (k + 1)) (ch_lt _ _)
   go_wp2
   go_round
   case rel=>exact ⟨k + 1,by omega,by go_num,rfl⟩
   case measure=>simp [intOf];omega
  ·obtain rfl:k = 3:=by omega
   go_wp2
   go_quiet (fail)
   go_wp2
   go_ret2
   refine ⟨rfl,?_⟩
   exact bdN B3.out _
theorem sequence_any (s:ByteArray) (w:World) (h:1 ≤ s.size) :
  Calls Tryz.prog 84 #[.string s] w fun e w'=>e = .returned (.tuple #[.int .i64 ((seqN s).1:Nat),.int .i64 ((seqN s).2:Nat)]) ∧ Below w.heap.size w w':=by
 cases hb:begB (rsz (ch s 0)) (rlo (ch s 0)) (rhi (ch s 0)) s
 ·exact sequence_no s w h hb
 ·have h4:=rsz_le (ch s 0)
  have:rsz (ch s 0) = 0 ∨ rsz (ch s 0) = 1 ∨ rsz (ch s 0) = 2 ∨ rsz (ch s 0) = 3 ∨ rsz (ch s 0) = 4:=by omega
  rcases this with e | e | e | e | e
  ·rw [e] at hb
   unfold begB at hb
   simp at hb
  ·exact sequence_one s w h hb e
  ·exact sequence_2 s w h hb e
  ·exact sequence_3 s w h hb e
  ·exact sequence_4 s w h hb e
def digB (c:Nat):Bool:=decide (48 ≤ c) && decide (c ≤ 57)
def worth (c:Nat):Option Nat:=if 48 ≤ c ∧ c ≤ 57 then some (c - 48) else if 97 ≤ c ∧ c ≤ 102 then some (c - 87) else if 65 ≤ c ∧ c ≤ 70 then some (c - 55) else none
theorem worth_lt {c d:Nat} (h:worth c = some d):d < 16:=by
 unfold worth at h
 split at h
 ·cases h;omega
 ·split at h
  ·cases h;omega
  ·split at h
   ·cases h;omega
   ·cases h
theorem isDigit_any (c:Nat) (w:World):Calls Tryz.prog 103 #[.int .u8 (c:Int)] w fun e w'=>e = .returned (.bool (digB c)) ∧ w' = w:=by
 unfold digB
 by_cases h:48 ≤ c
 ·go_enter Tryz.func103,Tryz.ntmps103
  go_wp2
  go_ret
  exact ⟨ret_bool (by simp [h];omega),rfl⟩
 ·have d:decide (48 ≤ (c:Int)) = false:=by simp;omega
  go_enter Tryz.func103,Tryz.ntmps103
  go_wp2
  go_ret
  exact ⟨ret_bool (by simp;omega),rfl⟩
theorem ret_ib {a b:Int} {p q:Bool} (h:a = b) (h2:p = q):Ending.returned (.tuple #[.int .i64 a,.bool p]) = .returned (.tuple #[.int .i64 b,.bool q]):=by rw [h,h2]
theorem hexDigit_some (c d:Nat) (hc:c < 256) (h:worth c = some d) (w:World):Calls Tryz.prog 206 #[.int .u8 (c:Int)] w fun e w'=>e = .returned (.tuple #[.int .i64 (d:Int),.bool true]) ∧ w' = w:=by
 unfold worth at h
 by_cases h1:48 ≤ c ∧ c ≤ 57
 ·rw [if_pos h1] at h
  cases h
  have b:digB c = true:=by unfold digB;simp [h1]
  have sb:IntKind.u8.wrap ((c:Int) - 48) = ((c - 48:Nat):Int):=by rw [IntKind.wrap_u8'];omega
  have e:((c - 48:Nat):Int) = (c:Int) - 48:=by omega
  go_enter Tryz.func206,Tryz.ntmps206
  go_wp2_with (go_at_call 103;refine (isDigit_any _ _).mono ?_;rintro e w1 ⟨rfl,rfl⟩)
  go_ret2
  exact ⟨ret_ib e.symm rfl,rfl⟩
 ·rw [if_neg h1] at h
  have b:digB c = false:=by unfold digB;simp;omega
  by_cases h2:97 ≤ c ∧ c ≤ 102
  ·rw [if_pos h2] at h
   cases h
   have d1:decide (97 ≤ (c:Int)) = true:=by simp;omega
   have e:((c - 87:Nat):Int) = (c:Int) - 97 + 10:=by omega
   go_enter Tryz.func206,Tryz.ntmps206
   go_wp2_with (go_at_call 103;refine (isDigit_any _ _).mono ?_;rintro e w1 ⟨rfl,rfl⟩)
   go_ret2
   exact ⟨ret_ib e.symm rfl,rfl⟩
  ·rw [if_neg h2] at h
   by_cases h3:65 ≤ c ∧ c ≤ 70
   ·rw [if_pos h3] at h
    cases h
    have d1:decide (97 ≤ (c:Int)) = false:=by simp;omega
    have d2:decide (65 ≤ (c:Int)) = true:=by simp;omega
    have e:((c - 55:Nat):Int) = (c:Int) - 65 + 10:=by omega
    go_enter Tryz.func206,Tryz.ntmps206
    go_wp2_with (go_at_call 103;refine (isDigit_any _ _).mono ?_;rintro e w1 ⟨rfl,rfl⟩)
    go_ret2
    exact ⟨ret_ib e.symm rfl,rfl⟩
   ·rw [if_neg h3] at h
    cases h
theorem hexDigit_none (c:Nat) (h:worth c = none) (w:World):Calls Tryz.prog 206 #[.int .u8 (c:Int)] w fun e w'=>e = .returned (.tuple #[.int .i64 0,.bool false]) ∧ w' = w:=by
 unfold worth at h
 have h1:¬ (48 ≤ c ∧ c ≤ 57):=fun hh=>by rw [if_pos hh] at h;cases h
 rw [if_neg h1] at h
 have h2:¬ (97 ≤ c ∧ c ≤ 102):=fun hh=>by rw [if_pos hh] at h;cases h
 rw [if_neg h2] at h
 have h3:¬ (65 ≤ c ∧ c ≤ 70):=fun hh=>by rw [if_pos hh] at h;cases h
 have b:digB c = false:=by unfold digB;simp;omega
 cases d1:decide (97 ≤ (c:Int))
 ·cases d2:decide (65 ≤ (c:Int))
  ·go_enter Tryz.func206,Tryz.ntmps206
   go_wp2_with (go_at_call 103;refine (isDigit_any _ _).mono ?_;rintro e w1 ⟨rfl,rfl⟩)
   go_ret2
   exact ⟨rfl,rfl⟩
  ·have d3:decide ((c:Int) ≤ 70) = false:=by simp at d2 ⊢;omega
   go_enter Tryz.func206,Tryz.ntmps206
   go_wp2_with (go_at_call 103;refine (isDigit_any _ _).mono ?_;rintro e w1 ⟨rfl,rfl⟩)
   go_ret2
   exact ⟨rfl,rfl⟩
 ·have d3:decide ((c:Int) ≤ 102) = false:=by simp at d1 ⊢;omega
  have d2:decide (65 ≤ (c:Int)) = true:=by simp at d1 ⊢;omega
  have d4:decide ((c:Int) ≤ 70) = false:=by simp at d1 ⊢;omega
  go_enter Tryz.func206,Tryz.ntmps206
  go_wp2_with (go_at_call 103;refine (isDigit_any _ _).mono ?_;rintro e w1 ⟨rfl,rfl⟩)
  go_ret2
  exact ⟨rfl,rfl⟩
theorem wpList_append_ex {P:Program} {w:World} {ops:Array Oper} {rest:List Oper} {o:Oper} {a:Act} {Q:Exit → Act → World → Prop} (hgd:o.guard = none) (s x:Operand) (t tx:TypeId)
  (ho:o.op = .call { callee:=.builtin .append,args:=#[s,x],argTypes:=#[t,tx] }) (sv xv:Value) (hs:a.eval s = sv) (hx:a.eval x = xv) (Post:Value → World → Prop)
  (hrun:∃ v w',(∀ ty,(Builtin.append_ #[t,tx] ty #[sv,xv]).run P w = .ok v w') ∧ Post v w')
  (h:∀ v w',Post v w' → wpList P ops Q rest (a.put o.dst v) w'):wpList P ops Q (o :: rest) a w:=by
 obtain ⟨v,w',hr,hp⟩:=hrun
 refine wpList_plain hgd fun _ hK=>?_
 unfold Oper.wp execOp
 simp only [ho,resolve,invoke,builtin,Sem.run_bind,Sem.run_pure,Result.andThen_ok,List.map_toArray,List.map_cons,List.map_nil,hs,hx,hr]
 exact hK _ _ (h v w' hp)
theorem step_append_ex {P:Program} {w:World} {ops:Array Oper} {o:Oper} {a:Act} {K:Act → World → Prop} {Q:Exit → Act → World → Prop} {E:Prop} (hgd:o.guard = none) (s x:Operand) (t tx:TypeId)
  (ho:o.op = .call { callee:=.builtin .append,args:=#[s,x],argTypes:=#[t,tx] }) (sv xv:Value) (hs:a.eval s = sv) (hx:a.eval x = xv) (Post:Value → World → Prop)
  (hrun:∃ v w',(∀ ty,(Builtin.append_ #[t,tx] ty #[sv,xv]).run P w = .ok v w') ∧ Post v w')
  (h:∀ v w',Post v w' → K (a.put o.dst v) w'):if Region.wanted o (yielded ops a.tmps) = true then Oper.wp P o a w K Q else E:=by
 have hw:Region.wanted o (yielded ops a.tmps) = true:=by simp [Region.wanted,hgd]
 rw [if_pos hw]
 obtain ⟨v,w',hr,hp⟩:=hrun
 unfold Oper.wp execOp
 simp only [ho,resolve,invoke,builtin,Sem.run_bind,Sem.run_pure,Result.andThen_ok,List.map_toArray,List.map_cons,List.map_nil,hs,hx,hr]
 exact h v w' hp
theorem src_lit (W:World) (g n c:Nat) (M:List Nat) (hn:M.length = n) (hg:W.heap[g]? = some (.cells (M.map cU).toArray 5 (0,0))):Src Tryz.prog 1 59 (.slice (some ⟨g,0,none⟩) n c) n (M.map cU) W :=
 Src.ofSlice W Tryz.underlying59 ⟨g,0,none⟩ n c _ (by rw [List.length_map,hn,Nat.mul_one]) (World.news_of_block hg) (cU_one M)
theorem make_buf (w:World) (c:Nat) (C:Int) (hC:C = (c:Int)) (hc:c ≤ 281474976710656):∃ w',(Instr.makeSlice 59 (.int .i64 0) (.int .i64 C)).run Tryz.prog w = .ok (.slice (some ⟨w.heap.size,0,none⟩) 0 c) w' ∧
  Buf w' w.heap.size (.slice (some ⟨w.heap.size,0,none⟩) 0 c) [] ∧ Below w.heap.size w w':=by
 obtain ⟨i,hi,hz,hsz,hby⟩:=info5
 obtain ⟨w',h1,h2,h3⟩:=run_make_own (P:=Tryz.prog) w w.heap.size 59 5 i (.int .u8 0) 1 Tryz.underlying59 hi hz hsz .i64 .i64 c (by rw [hby];omega) (by unfold maxLen;omega) (Nat.le_refl _)
 subst hC
 exact ⟨w',h1,h2,⟨h3.os,h3.tape,h3.output,h3.size,fun k hk=>h3.block k hk (by simp)⟩⟩
theorem take_succ_ch (s:ByteArray) (i:Nat) (h:i < s.size):(lOf s).take (i + 1) = (lOf s).take i ++ [ch s i]:=by
 have h2:i < (lOf s).length:=by rw [lOf_length];exact h
 rw [List.take_add_one,ch_lOf]
 simp [List.getD,h2]
theorem take_all (s:ByteArray):(lOf s).take s.size = lOf s:=by rw [← lOf_length];exact List.take_length
structure Rd (w:World) (g:Nat) (s:ByteArray) (a:Nat) (v:Value) (L:List Nat) (x:Option Value):Prop where
 h0:w.cell? ⟨g,0,none⟩ = some (.string s)
 h1:w.cell? ⟨g,1,none⟩ = some (.int .i64 (a:Int))
 h2:w.cell? ⟨g,2,none⟩ = some v
 h3:w.cell? ⟨g,3,none⟩ = x
 fz:∀ o,w.frozen? ⟨g,o,none⟩ = false
 buf:Buf w (g + 1) v L
 lt:g < w.heap.size
theorem Rd.below {w w':World} {g:Nat} {s:ByteArray} {a:Nat} {v:Value} {L:List Nat} {x:Option Value} (h:Rd w g s a v L x) (hb:Below w.heap.size w w'):Rd w' g s a v L x :=
 ⟨(hb.cell (p:=⟨g,0,none⟩) h.lt).trans h.h0,(hb.cell (p:=⟨g,1,none⟩) h.lt).trans h.h1,(hb.cell (p:=⟨g,2,none⟩) h.lt).trans h.h2,(hb.cell (p:=⟨g,3,none⟩) h.lt).trans h.h3,
  fun o=>(hb.frozen (p:=⟨g,o,none⟩) h.lt).trans (h.fz o),h.buf.below hb,Nat.lt_of_lt_of_le h.lt hb.size⟩
theorem Buf.shape {w:World} {B:Nat} {v:Value} {L:List Nat} (h:Buf w B v L):∃ p c,v = .slice p L.length c:=by
 rcases h.2 with ⟨rfl,h0⟩ | ⟨g',cap,cur,e,_⟩
 ·exact ⟨none,0,by rw [h0]⟩
 ·exact ⟨_,_,e⟩
theorem set_cell_ne (w:World) (g o o':Nat) (u:Value) (h:o' ≠ o):(w.setCell ⟨g,o,none⟩ u).cell? ⟨g,o',none⟩ = w.cell? ⟨g,o',none⟩ :=
 World.cell?_setCell_other w _ _ _ (fun e=>h (by injection e with _ e2;exact e2.symm))
theorem Buf.setCell {w:World} {g o:Nat} {v:Value} {L:List Nat} (h:Buf w (g + 1) v L) (u:Value):Buf (w.setCell ⟨g,o,none⟩ u) (g + 1) v L:=by
 refine ⟨h.1,?_⟩
 rcases h.2 with h0 | ⟨g',cap,cur,e,hb,hg,r⟩
 ·exact .inl h0
 ·refine .inr ⟨g',cap,cur,e,hb,?_,r⟩
  rw [Below.heap_setCell w ⟨g,o,none⟩ u g' (by show g' ≠ g;omega)]
  exact hg
theorem below_set {B g o:Nat} (hB:B ≤ g) (w:World) (u:Value):Below B w (w.setCell ⟨g,o,none⟩ u):=(Below.refl B w).setCell hB u
theorem Rd.move {w:World} {g:Nat} {s:ByteArray} {a:Nat} {v:Value} {L:List Nat} {x:Option Value} (h:Rd w g s a v L x) (b:Nat):Rd (w.setCell ⟨g,1,none⟩ (.int .i64 (b:Int))) g s b v L x :=
 ⟨(set_cell_ne w g 1 0 _ (by decide)).trans h.h0,World.cell?_setCell_same w ⟨g,1,none⟩ _ h.h1,(set_cell_ne w g 1 2 _ (by decide)).trans h.h2,(set_cell_ne w g 1 3 _ (by decide)).trans h.h3,
  fun o=>by rw [World.frozen?_setCell];exact h.fz o,h.buf.setCell _,by simpa [World.setCell] using h.lt⟩
theorem Rd.held {w w':World} {g:Nat} {s:ByteArray} {a:Nat} {v v':Value} {L L':List Nat} {x:Option Value} (h:Rd w g s a v L x) (hb:Below (g + 1) w w') (hv:Buf w' (g + 1) v' L'):Rd (w'.setCell ⟨g,2,none⟩ v') g s a v' L' x:=by
 have e:∀ o,w'.cell? ⟨g,o,none⟩ = w.cell? ⟨g,o,none⟩:=fun o=>hb.cell (p:=⟨g,o,none⟩) (by show g < g + 1;omega)
 exact ⟨(set_cell_ne w' g 2 0 _ (by decide)).trans ((e 0).trans h.h0),(set_cell_ne w' g 2 1 _ (by decide)).trans ((e 1).trans h.h1),World.cell?_setCell_same w' ⟨g,2,none⟩ _ ((e 2).trans h.h2),
  (set_cell_ne w' g 2 3 _ (by decide)).trans ((e 3).trans h.h3),fun o=>by rw [World.frozen?_setCell,hb.frozen (p:=⟨g,o,none⟩) (by show g < g + 1;omega)];exact h.fz o,hv.setCell _,
  by have:=hb.size;have:=h.lt;simp [World.setCell];omega⟩
theorem take_any (g:Nat) (s:ByteArray) (a n:Nat) (v:Value) (L M:List Nat) (x:Option Value) (ad:Addr) (c:Nat) (w:World) (h:Rd w g s a v L x) (hM:∀ j u,(M.map cU)[j]? = some u → w.cell? (ad.add j) = some u) (hne:∀ j,((ad.add j).block = g) = False)
  (hl:L.length + M.length ≤ 140737488355328) (ha:a + n ≤ 9223372036854775807) :
  Calls Tryz.prog 201 #[.pointer (some ⟨g,0,none⟩),.int .i64 (n:Int),.slice (some ad) M.length c] w fun e w'=>e = .returned (.bool true) ∧ (∃ v',Rd w' g s (a + n) v' (L ++ M) x) ∧ Below g w w' ∧ w.heap.size ≤ w'.heap.size:=by
 have hz:=h.lt
 have R1:Rd (w.setCell ⟨g,1,none⟩ (.int .i64 ((a:Int) + (n:Int)))) g s (a + n) v L x:=by
  have:=h.move (a + n)
  rwa [Int.natCast_add] at this
 have S:Src Tryz.prog 1 59 (.slice (some ad) M.length c) M.length (M.map cU) (w.setCell ⟨g,1,none⟩ (.int .i64 ((a:Int) + (n:Int)))) :=
  Src.ofSlice _ Tryz.underlying59 ad M.length c _ (by rw [List.length_map,Nat.mul_one]) (fun j u hu=>by
   rw [World.cell?_setCell_other w _ _ _ (fun e=>by have:=hne j;rw [← e] at this;simp at this)]
   exact hM j u hu) (cU_one M)
 obtain ⟨v',w',hrun,hbuf,hbel⟩:=Buf.append R1.buf S hl (by simp [World.setCell];omega)
 obtain ⟨pp,cp,hv'⟩:=hbuf.shape
 rw [List.length_append] at hv'
 subst hv'
 have R2:=R1.held hbel hbuf
 have c1:=h.h1
 have c2:=R1.h2
 have f1:=h.fz 1
 have f2:w'.frozen? ⟨g,2,none⟩ = false:=(hbel.frozen (p:=⟨g,2,none⟩) (by show g < g + 1;omega)).trans (R1.fz 2)
 have c2':w'.cell? ⟨g,2,none⟩ = some v:=(hbel.cell (p:=⟨g,2,none⟩) (by show g < g + 1;omega)).trans c2
 have HB:Hid (Below g w (w'.setCell ⟨g,2,none⟩ (.slice pp (L.length + M.length) cp))):=(below_set (Nat.le_refl g) w _).trans ((hbel.mono (by omega)).trans (below_set (Nat.le_refl g) w' _))
 have R2':Hid (Rd (w'.setCell ⟨g,2,none⟩ (.slice pp (L.length + M.length) cp)) g s (a + n) (.slice pp (L.length + M.length) cp) (L ++ M) x):=R2
 clear R2 R1 S hM hne h hbuf hbel
 go_enter Tryz.func201,Tryz.ntmps201
 go_wp2_with (at_builtin;refine (wpList_append_ex (by rfl) _ _ _ _ (by rfl) _ _ (by rfl) (by rfl) (fun a b=>a = .slice pp (L.length + M.length) cp ∧ b = w') ⟨_,w',hrun,rfl,rfl⟩ ?_);rintro _ _ ⟨rfl,rfl⟩)
 go_ret
 exact ⟨rfl,⟨_,R2'⟩,HB,HB.out.size⟩
def prefB (s p:ByteArray):Bool:=decide (p.size ≤ s.size) && ((s.extract 0 p.size).toList == p.toList)
theorem lOf_toList (s:ByteArray):lOf s = s.toList.map UInt8.toNat:=by unfold lOf;rw [ByteArray.toList_eq]
theorem toNat_map_inj:∀ (a b:List UInt8),(a.map UInt8.toNat = b.map UInt8.toNat) → a = b
 | [],[],_=>rfl
 | [],_ :: _,h=>by simp at h
 | _ :: _,[],h=>by simp at h
 | x :: a,y :: b,h=>by
  simp only [List.map_cons,List.cons.injEq] at h
  rw [toNat_map_inj a b h.2,UInt8.toNat_inj.1 h.1]
theorem prefB_iff (s p:ByteArray):prefB s p = true ↔ (lOf p) = (lOf s).take p.size:=by
 unfold prefB
 rw [Bool.and_eq_true,decide_eq_true_eq,beq_iff_eq]
 constructor
 ·rintro ⟨_,h⟩
  rw [lOf_toList p,← h,← lOf_toList,lOf_extract,List.drop_zero,Nat.sub_zero]
 ·intro h
  have hl:(lOf p).length = p.size:=lOf_length p
  have h2:p.size ≤ s.size:=by
   rw [h,List.length_take,lOf_length] at hl;omega
  refine ⟨h2,toNat_map_inj _ _ ?_⟩
  rw [← lOf_toList,← lOf_toList,lOf_extract,List.drop_zero,Nat.sub_zero,h]
theorem take1 (s:ByteArray) (h:1 ≤ s.size):(lOf s).take 1 = [ch s 0]:=by rw [take_succ_ch s 0 h];rfl
theorem take2 (s:ByteArray) (h:2 ≤ s.size):(lOf s).take 2 = [ch s 0,ch s 1]:=by rw [take_succ_ch s 1 h,take1 s (by omega)];rfl
theorem take3 (s:ByteArray) (h:3 ≤ s.size):(lOf s).take 3 = [ch s 0,ch s 1,ch s 2]:=by rw [take_succ_ch s 2 h,take2 s (by omega)];rfl
theorem prefB_2 (s:ByteArray) (x y:UInt8):prefB s ⟨#[x,y]⟩ = (decide (2 ≤ s.size) && decide (ch s 0 = x.toNat) && decide (ch s 1 = y.toNat)):=by
 rw [Bool.eq_iff_iff,prefB_iff,Bool.and_eq_true,Bool.and_eq_true,decide_eq_true_eq,decide_eq_true_eq,decide_eq_true_eq]
 show [x.toNat,y.toNat] = (lOf s).take 2 ↔ _
 by_cases h:2 ≤ s.size
 ·rw [take2 s h];simp [h,eq_comm]
 ·have hl:((lOf s).take 2).length < 2:=by rw [List.length_take,lOf_length];omega
  constructor
  ·intro e;rw [← e] at hl;simp at hl
  ·rintro ⟨⟨h2,_⟩,_⟩;omega
theorem prefB_3 (s:ByteArray) (x y z:UInt8):prefB s ⟨#[x,y,z]⟩ = (decide (3 ≤ s.size) && decide (ch s 0 = x.toNat) && decide (ch s 1 = y.toNat) && decide (ch s 2 = z.toNat)):=by
 rw [Bool.eq_iff_iff,prefB_iff,Bool.and_eq_true,Bool.and_eq_true,Bool.and_eq_true,decide_eq_true_eq,decide_eq_true_eq,decide_eq_true_eq,decide_eq_true_eq]
 show [x.toNat,y.toNat,z.toNat] = (lOf s).take 3 ↔ _
 by_cases h:3 ≤ s.size
 ·rw [take3 s h];simp [h,eq_comm,and_assoc]
 ·have hl:((lOf s).take 3).length < 3:=by rw [List.length_take,lOf_length];omega
  constructor
  ·intro e;rw [← e] at hl;simp at hl
  ·rintro ⟨⟨⟨h2,_⟩,_⟩,_⟩;omega
theorem HasPrefix_any (s p:ByteArray) (w:World):Calls Tryz.prog 86 #[.string s,.string p] w fun e w'=>e = .returned (.bool (prefB s p)) ∧ w' = w:=by
 unfold prefB
 by_cases h:p.size ≤ s.size
 ·have d:decide ((p.size:Int) ≤ (s.size:Int)) = true:=by simp;omega
  have hsl:∀ w:World,(Instr.slice 9 (.string s) none (some (.int .i64 (p.size:Int))) none).run Tryz.prog w = .ok (.string (s.extract 0 p.size)) w:=fun w=>by
   rw [run_slice_string_to_if w 9 s .i64 _ Tryz.underlying9,if_pos ⟨by omega,by omega⟩,Int.toNat_natCast]
  go_enter Tryz.func86,Tryz.ntmps86
  go_wp2_with (go_at_call 109;go_in)
  go_ret
  exact ⟨ret_bool (by simp [h]),rfl⟩
 ·have d:decide ((p.size:Int) ≤ (s.size:Int)) = false:=by simp;omega
  go_enter Tryz.func86,Tryz.ntmps86
  go_wp2_with (go_at_call 109;go_in)
  go_ret
  exact ⟨ret_bool (by simp [h]),rfl⟩
theorem take_str (g:Nat) (s:ByteArray) (a n:Nat) (v:Value) (L:List Nat) (x:Option Value) (t:ByteArray) (c G m:Nat) (W:World) (hG:W.heap.size = G) (hm:t.size = m) (h:Rd W g s a v L x) (hl:L.length + t.size ≤ 140737488355328) (ha:a + n ≤ 9223372036854775807) :
  Calls Tryz.prog 201 #[.pointer (some ⟨g,0,none⟩),.int .i64 (n:Int),.slice (some ⟨G,0,none⟩) m c] (Lib.bytesWorld W 5 t) fun e w'=>e = .returned (.bool true) ∧ (∃ v',Rd w' g s (a + n) v' (L ++ lOf t) x) ∧ Below g W w':=by
 subst hG hm
 have hb:=Lib.bytesWorld_below W 5 t
 have:=take_any g s a n v L (lOf t) x ⟨W.heap.size,0,none⟩ c (Lib.bytesWorld W 5 t) (h.below hb) (fun j u hu=>by
   have hadd:(⟨W.heap.size,0,none⟩:Addr).add j = ⟨W.heap.size,j,none⟩:=by unfold Addr.add;split <;> simp_all
   have hj:j < t.size:=by
    have:=(List.getElem?_eq_some_iff.1 hu).1
    rw [List.length_map,lOf_length] at this
    exact this
   rw [hadd,Lib.bytesWorld_cell W _ _ j hj,← hu]
   have h3:j < t.data.toList.length:=by rw [tl_len];exact hj
   have e:(lOf t)[j]? = some (t.data.toList.getD j 0).toNat:=by unfold lOf;simp only [List.getElem?_map,List.getD,List.getElem?_eq_getElem h3,Option.map_some,Option.getD_some]
   rw [List.getElem?_map,e];rfl) (fun j=>by
   have hadd:(⟨W.heap.size,0,none⟩:Addr).add j = ⟨W.heap.size,j,none⟩:=by unfold Addr.add;split <;> simp_all
   have:=h.lt
   rw [hadd]
   simp
   omega) (by rw [lOf_length];exact hl) ha
 rw [lOf_length] at this
 refine this.mono ?_
 rintro e w' ⟨rfl,h1,h2,h3⟩
 exact ⟨rfl,h1,(hb.mono (Nat.le_of_lt h.lt)).trans h2⟩
theorem take_byte (g:Nat) (s:ByteArray) (a n:Nat) (v:Value) (L:List Nat) (x:Option Value) (b:Nat) (c G:Nat) (W:World) (hG:W.heap.size = G) (h:Rd W g s a v L x) (hl:L.length + 1 ≤ 140737488355328) (ha:a + n ≤ 9223372036854775807) :
  Calls Tryz.prog 201 #[.pointer (some ⟨g,0,none⟩),.int .i64 (n:Int),.slice (some ⟨G,0,none⟩) 1 c] (W.alloc (.cells #[.int .u8 (b:Int)] 5)) fun e w'=>e = .returned (.bool true) ∧ (∃ v',Rd w' g s (a + n) v' (L ++ [b]) x) ∧ Below g W w':=by
 subst hG
 have hb:=bel1 W (.cells #[.int .u8 (b:Int)] 5)
 have:=take_any g s a n v L [b] x ⟨W.heap.size,0,none⟩ c (W.alloc (.cells #[.int .u8 (b:Int)] 5)) (h.below hb) (World.news_of_block (heap_alloc_new W _)) (fun j=>by
   have hadd:(⟨W.heap.size,0,none⟩:Addr).add j = ⟨W.heap.size,j,none⟩:=by unfold Addr.add;split <;> simp_all
   have:=h.lt
   rw [hadd]
   simp
   omega) hl ha
 refine this.mono ?_
 rintro e w' ⟨rfl,h1,h2,h3⟩
 exact ⟨rfl,h1,(hb.mono (Nat.le_of_lt h.lt)).trans h2⟩
theorem Rd.drewN {w:World} {g:Nat} {s:ByteArray} {a:Nat} {v:Value} {L:List Nat} {x:Option Value} (h:Rd w g s a v L x) (n:Nat):Rd (w.drewN n) g s a v L x :=
 h.below (bdN (Below.refl _ _) n)
theorem slice_from (s:ByteArray) (a:Nat) (ha:a ≤ s.size) (w:World):(Instr.slice 9 (.string s) (some (.int .i64 (a:Int))) none none).run Tryz.prog w = .ok (.string (s.extract a s.size)) w:=by
 rw [run_slice_string_from_if w 9 s .i64 a Tryz.underlying9,if_pos ⟨by omega,by omega⟩,Int.toNat_natCast]
theorem pre2 (s:ByteArray) (a:Nat) (x y:UInt8):prefB (s.extract a s.size) ⟨#[x,y]⟩ = (decide (a + 1 < s.size) && decide (ch s a = x.toNat) && decide (ch s (a + 1) = y.toNat)):=by
 rw [prefB_2,size_ext s a s.size (Nat.le_refl _)]
 by_cases h:a + 1 < s.size
 ·rw [ch_ext s a s.size 0 (by omega),ch_ext s a s.size 1 (by omega)]
  rw [decide_eq_true (show 2 ≤ s.size - a by omega)]
  simp [h]
 ·simp [h];omega
theorem pre3 (s:ByteArray) (a:Nat) (x y z:UInt8):prefB (s.extract a s.size) ⟨#[x,y,z]⟩ = (decide (a + 2 < s.size) && decide (ch s a = x.toNat) && decide (ch s (a + 1) = y.toNat) && decide (ch s (a + 2) = z.toNat)):=by
 rw [prefB_3,size_ext s a s.size (Nat.le_refl _)]
 by_cases h:a + 2 < s.size
 ·rw [ch_ext s a s.size 0 (by omega),ch_ext s a s.size 1 (by omega),ch_ext s a s.size 2 (by omega)]
  rw [decide_eq_true (show 3 ≤ s.size - a by omega)]
  simp [h]
 ·simp [h];omega
end Go.Proofs.YtchfphakhmifmabGreatDoor

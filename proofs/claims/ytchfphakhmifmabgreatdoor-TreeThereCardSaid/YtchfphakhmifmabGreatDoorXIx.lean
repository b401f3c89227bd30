import Derived.Test.YtchfphakhmifmabGreatDoorXLib
import Derived.Test.YtchfphakhmifmabGreatDoorMA
import Derived.Lib.TrimU
namespace Go.Proofs.YtchfphakhmifmabGreatDoor
set_option maxRecDepth 1000000
set_option maxHeartbeats 16000000
open Go.ChangeShapes Go.WideShapes Go.ChangeAt Go.RowKit Go.Shelf Go.Lib
theorem enc_last (r:Nat) (h:128 ≤ r):2 ≤ (Utf8.encode (r:Int)).size ∧ (Utf8.encode (r:Int)).size ≤ 4 ∧ 128 ≤ ch (Utf8.encode (r:Int)) ((Utf8.encode (r:Int)).size - 1):=by
 have key:∀ c:Nat,128 ≤ c → 128 ≤ (UInt8.ofNat (128 + c % 64)).toNat:=fun c _=>by
  have e:(UInt8.ofNat (128 + c % 64)).toNat = 128 + c % 64:=by simp;omega
  omega
 unfold Utf8.encode
 simp only
 have hc:128 ≤ (if Utf8.valid (r:Int) then (r:Int).toNat else Utf8.runeError):=by
  split
  ·simpa using h
  ·unfold Utf8.runeError;decide
 generalize (if Utf8.valid (r:Int) then (r:Int).toNat else Utf8.runeError) = c at hc
 rw [if_neg (by omega)]
 split
 ·exact ⟨(by decide:2 ≤ 2),(by decide:2 ≤ 4),key c hc⟩
 ·split
  ·exact ⟨(by decide:2 ≤ 3),(by decide:3 ≤ 4),key c hc⟩
  ·exact ⟨(by decide:2 ≤ 4),(by decide:4 ≤ 4),key c hc⟩
theorem fst_none (s:ByteArray) (hs:∀ i,i < s.size → ch s i < 128) (c:UInt8) (hc:128 ≤ c.toNat):Lib.indexByte s.data.toList c = -1:=by
 have:∀ l:List UInt8,(∀ b ∈ l,b.toNat < 128) → Lib.indexByte l c = -1:=by
  intro l
  induction l with
  | nil=>intro _;rfl
  | cons b l ih =>
   intro hb
   unfold Lib.indexByte
   have h1:(b == c) = false:=by
    rw [beq_eq_false_iff_ne];intro e;have:=hb b (by simp);rw [e] at this;omega
   rw [h1,ih (fun x hx=>hb x (by simp [hx]))]
   rfl
 refine this _ (fun b hb=>?_)
 obtain ⟨i,hi,he⟩:=List.getElem_of_mem hb
 have:=hs i (by rwa [tl_len] at hi)
 unfold ch at this
 rw [List.getD_eq_getElem?_getD,List.getElem?_eq_getElem hi] at this
 simpa [he] using this
theorem ValidRune_any (r:Nat) (w:World) (h:r ≤ 1114111):Calls Tryz.prog 186 #[.int .i32 (r:Int)] w fun e w'=>e = .returned (.bool (decide (r < 55296 ∨ 57343 < r))) ∧ w' = w:=by
 by_cases h1:r < 55296
 ·have k1:(r:Int) < 55296:=by omega
  go_enter Tryz.func186,Tryz.ntmps186
  go_wp2
  go_ret
  exact ⟨ret_bool (by rw [decide_eq_true (Or.inl h1)]),rfl⟩
 ·have k1:¬ (r:Int) < 55296:=by omega
  by_cases h2:57343 < r
  ·have k2:(57343:Int) < (r:Int):=by omega
   have k3:(r:Int) ≤ 1114111:=by omega
   go_enter Tryz.func186,Tryz.ntmps186
   go_wp2
   go_ret
   exact ⟨ret_bool rfl,rfl⟩
  ·have k2:¬ (57343:Int) < (r:Int):=by omega
   go_enter Tryz.func186,Tryz.ntmps186
   go_wp2
   go_ret
   exact ⟨ret_bool rfl,rfl⟩
theorem IndexRune_bad (s:ByteArray) (r:Nat) (w:World) (hr:55296 ≤ r) (hr2:r ≤ 57343) :
  Calls Tryz.prog 174 #[.string s,.int .i32 (r:Int)] w fun e w'=>e = .returned (.int .i64 (-1)) ∧ w' = w:=by
 have h1:¬ ((r:Int) < 128):=by omega
 have h2:((r:Int) == 65533) = false:=beq_eq_false_iff_ne.2 (by omega)
 have hv:decide (r < 55296 ∨ 57343 < r) = false:=by simp;omega
 have cv:=ValidRune_any r w (by omega)
 rw [hv] at cv
 go_enter Tryz.func174,Tryz.ntmps174
 go_wp2_with (go_at_call 186;refine cv.mono ?_;rintro e w' ⟨rfl,rfl⟩)
 go_ret
 exact ⟨rfl,rfl⟩
theorem IndexRune_err (s:ByteArray) (w:World) (ha:∀ i,i < s.size → ch s i < 128) :
  Calls Tryz.prog 174 #[.string s,.int .i32 65533] w fun e w'=>e = .returned (.int .i64 (-1)) ∧ ∃ n,w' = w.iter s n:=by
 go_enter Tryz.func174,Tryz.ntmps174
 go_wp2
 go_loopg [5,6] s.size (fun g _ _ wx=>∃ i:Nat,i + g = s.size ∧ wx = w.iter s i)
 case atStart=>exact ⟨0,by omega,rfl⟩
 case round =>
  obtain ⟨i,hig,rfl⟩:=hrel
  cases gk with
  | zero =>
   obtain rfl:i = s.size:=by omega
   have hnx:=run_next_end (P:=Tryz.prog) w s s.size
   go_wp2
   go_ret
   exact ⟨rfl,_,rfl⟩
  | succ g =>
   have hi:i < s.size:=by omega
   obtain ⟨x,hx⟩:∃ x:UInt8,s[i]'hi = x:=⟨_,rfl⟩
   have hx128:x.toNat < 128:=by rw [← hx,ch_get];exact ha i hi
   have hnx:=fun ty=>run_next_ascii (P:=Tryz.prog) w s i ty hi (by rw [hx];exact hx128)
   rw [hx] at hnx
   clear hx ha
   have hne:((x.toNat:Int) == 65533) = false:=beq_eq_false_iff_ne.2 (by omega)
   go_wp2
   go_roundg g
   case measure=>omega
   case rel=>exact ⟨i + 1,by omega,rfl⟩
theorem IndexRune_long (s:ByteArray) (r:Nat) (w:World) (hr:128 ≤ r) (hr2:r ≤ 1114111) (hn:¬ r = 65533) (hv:r < 55296 ∨ 57343 < r) (ha:∀ i,i < s.size → ch s i < 128) :
  Calls Tryz.prog 174 #[.string s,.int .i32 (r:Int)] w fun e w'=>e = .returned (.int .i64 (-1)) ∧ Below w.heap.size w w':=by
 have h1:¬ ((r:Int) < 128):=by omega
 have h2:((r:Int) == 65533) = false:=beq_eq_false_iff_ne.2 (by omega)
 obtain ⟨e2,e4,eL⟩:=enc_last r hr
 have cv:=ValidRune_any r w (by omega)
 rw [decide_eq_true hv] at cv
 have hcv:∀ w:World,(convert 21 9 (.int .i32 (r:Int))).run Tryz.prog w = .ok (.string (Utf8.encode (r:Int))) w:=fun w=>by simp [go_sem]
 generalize Utf8.encode (r:Int) = E at e2 e4 eL hcv
 obtain ⟨L,hL⟩:∃ L,E.size = L + 1:=⟨E.size - 1,by omega⟩
 rw [hL,Nat.add_sub_cancel] at eL
 rw [hL] at e2 e4
 have ix:∀ w:World,(Instr.index 9 (.string E) (.int .i64 (L:Int))).run Tryz.prog w = .ok (.int .u8 (ch E L:Int)) w:=fun w=>idx (w:=w) E L (by omega) .i64
 have hEL:((L + 1:Nat):Int) - 1 = (L:Int):=by omega
 clear hv
 by_cases hlt:L < s.size
 ·have hlt1:(L:Int) < (s.size:Int):=by omega
  have hc:=ha L hlt
  have iy:∀ w:World,(Instr.index 9 (.string s) (.int .i64 (L:Int))).run Tryz.prog w = .ok (.int .u8 (ch s L:Int)) w:=fun w=>idx (w:=w) s L hlt .i64
  have hne:((ch s L:Int) == (ch E L:Int)) = false:=beq_eq_false_iff_ne.2 (by omega)
  have sl:∀ w:World,(Instr.slice 9 (.string s) (some (.int .i64 ((L:Int) + 1))) none none).run Tryz.prog w = .ok (.string (s.extract (L + 1) s.size)) w:=fun w=>slice_from s (L + 1) (by omega) w
  have cb:∀ w:World,Calls Tryz.prog 185 #[.string (s.extract (L + 1) s.size),.int .u8 (ch E L:Int)] w fun e w'=>e = .returned (.int .i64 (-1)) ∧ w' = w:=fun w=>by
   have:=Any.strings_IndexByte { Tryz.lays153 with } (s.extract (L + 1) s.size) (ch E L:Int) w
   rw [show ((ch E L:Int)).toNat.toUInt8 = E.data.toList.getD L 0 by unfold ch;simp] at this
   rw [fst_none _ (fun i hi=>by rw [size_ext s _ _ (Nat.le_refl _)] at hi;rw [ch_ext s _ _ _ hi];exact ha _ (by omega)) _ eL] at this
   exact this
  generalize ch s L = d at hne iy hc
  generalize ch E L = f at hne ix eL cb
  generalize s.extract (L + 1) s.size = T at sl cb
  have hw1:IntKind.i64.wrap ((L:Int) + 1) = (L:Int) + 1:=by rw [IntKind.wrap_i64];omega
  clear ha
  go_enter Tryz.func174,Tryz.ntmps174
  go_wp2_with (go_at_call 186;refine cv.mono ?_;rintro e w' ⟨rfl,rfl⟩)
  go_step3
  go_wp2_with fail
  refine wp_loop_rounds 1 ?_
  rw [rounds_succ]
  go_wp2_with fail
  go_step3
  go_wp2_with fail
  go_quiet (fail)
  go_wp2_with fail
  have hB:=bdN (Below.refl w'.heap.size w') nq
  generalize w'.drewN nq = w1 at hB ⊢
  go_quiet ((go_at_call 185;refine Calls.quiet_of_same (cb _)))
  go_wp2_with fail
  rw [Exit.noGoto_ret]
  go_wp2_with fail
  rw [Exit.noGoto_ret]
  go_wp2_with fail
  go_ret
  exact ⟨rfl,bdN hB _⟩
 ·have hge:¬ (L:Int) < (s.size:Int):=by omega
  go_enter Tryz.func174,Tryz.ntmps174
  go_wp2_with (go_at_call 186;refine cv.mono ?_;rintro e w' ⟨rfl,rfl⟩)
  go_step3
  go_wp2_with fail
  refine wp_loop_rounds 1 ?_
  rw [rounds_succ]
  go_wp2_with fail
  rw [Exit.noGoto_ret]
  go_wp2_with fail
  go_ret
  exact ⟨rfl,Below.refl _ _⟩
theorem IndexRune_high (s:ByteArray) (r:Nat) (w:World) (hr:128 ≤ r) (hr2:r ≤ 1114111) (ha:∀ i,i < s.size → ch s i < 128) :
  Calls Tryz.prog 174 #[.string s,.int .i32 (r:Int)] w fun e w'=>e = .returned (.int .i64 (-1)) ∧ Below w.heap.size w w':=by
 by_cases h1:r = 65533
 ·subst h1
  refine (IndexRune_err s w ha).mono ?_
  rintro e w' ⟨rfl,n,rfl⟩
  exact ⟨rfl,(Below.refl _ w).alloc (Nat.le_refl _) _⟩
 ·by_cases h2:r < 55296 ∨ 57343 < r
  ·exact IndexRune_long s r w hr hr2 h1 h2 ha
  ·refine (IndexRune_bad s r w (by omega) (by omega)).mono ?_
   rintro e w' ⟨rfl,rfl⟩
   exact ⟨rfl,Below.refl _ _⟩
theorem decN_high (n b0 b1 b2 b3:Nat) (h:128 ≤ b0):128 ≤ (decodeN n b0 b1 b2 b3).1 ∧ 1 ≤ (decodeN n b0 b1 b2 b3).2 ∧ (decodeN n b0 b1 b2 b3).2 ≤ 4 ∧ (1 < (decodeN n b0 b1 b2 b3).2 → 1 < n ∧ 128 ≤ b1) ∧ (2 < (decodeN n b0 b1 b2 b3).2 → 2 < n ∧ 128 ≤ b2) ∧ (3 < (decodeN n b0 b1 b2 b3).2 → 3 < n ∧ 128 ≤ b3):=by
 unfold decodeN
 repeat' split
 all_goals (dsimp only;omega)
theorem get_ch (s:ByteArray) (i:Nat) (h:i < s.size):(s.get! i).toNat = ch s i:=by
 rw [← ch_get s i h]
 have e:s.get! i = s[i]'h:=by
  show s.data[i]! = s.data[i]
  rw [getElem!_pos s.data i (by simpa using h)]
 rw [e]
theorem dec_high (s:ByteArray) (pos:Nat) (h:pos < s.size) (hc:128 ≤ ch s pos):128 ≤ (Utf8.decode s pos).1 ∧ 1 ≤ (Utf8.decode s pos).2 ∧ pos + (Utf8.decode s pos).2 ≤ s.size ∧ ∀ j,j < (Utf8.decode s pos).2 → 128 ≤ ch s (pos + j):=by
 rw [decode_at]
 have k:=decN_high (s.size - pos) (s.get! pos).toNat (s.get! (pos + 1)).toNat (s.get! (pos + 2)).toNat (s.get! (pos + 3)).toNat (by rw [get_ch s pos h];exact hc)
 generalize decodeN (s.size - pos) (s.get! pos).toNat (s.get! (pos + 1)).toNat (s.get! (pos + 2)).toNat (s.get! (pos + 3)).toNat = d at k
 obtain ⟨k1,k2,k3,k4,k5,k6⟩:=k
 refine ⟨k1,k2,by omega,fun j hj=>?_⟩
 match j,hj with
 | 0,_=>exact hc
 | 1,hj=>have:=k4 hj;rw [get_ch s _ (by omega)] at this;omega
 | 2,hj=>have:=k5 hj;rw [get_ch s _ (by omega)] at this;omega
 | 3,hj=>have:=k6 hj;rw [get_ch s _ (by omega)] at this;omega
 | j + 4,hj=>omega
theorem noAny_more {s:ByteArray} {cs:List UInt8} (hcs:∀ b ∈ cs,b.toNat < 128) {pos:Nat} (hn:Lib.NoAny s.data.toList cs pos) (K:Nat) (hk:∀ j,j < K → 128 ≤ ch s (pos + j)):Lib.NoAny s.data.toList cs (pos + K):=by
 intro j b hj hb
 by_cases h1:j < pos
 ·exact hn j b h1 hb
 ·have h2:=hk (j - pos) (by omega)
  rw [show pos + (j - pos) = j by omega] at h2
  unfold ch at h2
  rw [List.getD_eq_getElem?_getD,hb] at h2
  rw [Bool.eq_false_iff]
  intro hc
  have:=hcs b (by simpa using hc)
  simp at h2
  omega
theorem get_some (s:ByteArray) (i:Nat) (h:i < s.size):s.data.toList[i]? = some (s[i]'h):=Lib.data_getElem? s i h
theorem ascii_ch (s:ByteArray) (h:∀ b ∈ s.data.toList,b.toNat < 128) (i:Nat) (hi:i < s.size):ch s i < 128:=by
 rw [← ch_get s i hi]
 exact h _ (List.mem_of_getElem? (get_some s i hi))
theorem IndexAny_short (s chars:ByteArray) (w:World) (h2:2 ≤ chars.size) (h8:s.size ≤ 8) (hcs:∀ b ∈ chars.data.toList,b.toNat < 128) :
  Calls Tryz.prog 167 #[.string s,.string chars] w fun e w'=>e = .returned (.int .i64 (Lib.indexAny s.data.toList chars.data.toList)) ∧ Below w.heap.size w w':=by
 have hemp:chars.toList.isEmpty = false:=by
  rw [Lib.toList_data]
  cases h:chars.data.toList with
  | nil=>have:=Lib.size_eq chars;rw [h,List.length_nil] at this;omega
  | cons _ _=>rfl
 have hn1:((chars.size:Int) == 1) = false:=beq_eq_false_iff_ne.2 (by omega)
 have h8z:decide ((8:Int) < (s.size:Int)) = false:=decide_eq_false (by omega)
 have HC:Hid (∀ b ∈ chars.data.toList,b.toNat < 128):=hcs
 have HI:Hid (∀ i,i < chars.size → ch chars i < 128):=ascii_ch chars hcs
 clear hcs
 have cs8:=Any.strings_shouldUseASCIISet { Tryz.lays153 with } (s.size:Int) w
 rw [h8z] at cs8
 go_enter Tryz.func167,Tryz.ntmps167
 go_wp2_with (go_at_call 181;refine cs8.mono ?_;rintro e w' ⟨rfl,rfl⟩)
 go_loopg [9,10] s.size (fun g _ _ wx=>∃ pos:Nat,wx.heap[w'.heap.size]? = some (.stringIter s pos) ∧ Below w'.heap.size w' wx ∧ Lib.NoAny s.data.toList chars.data.toList pos ∧ pos ≤ s.size ∧ s.size ≤ pos + g)
 case atStart=>exact ⟨0,World.iter_heap w' s 0,(Below.refl _ w').alloc (Nat.le_refl _) _,Lib.NoAny.zero _ _,by omega,by omega⟩
 case round =>
  obtain ⟨pos,hit,hbw,hno,hle,hfu⟩:=hrel
  have HN:Hid (Lib.NoAny s.data.toList chars.data.toList pos):=hno
  clear hno
  by_cases hp:pos < s.size
  ·obtain ⟨g,rfl⟩:∃ g,gk = g + 1:=⟨gk - 1,by omega⟩
   have hnx:∀ ty,(Instr.next (.pointer (some ⟨w'.heap.size,0,none⟩)) true ty).run Tryz.prog wr = _:=fun ty=>Lib.run_next_any_at wr w'.heap.size s pos ty hit hp
   have hwd:=Lib.width_pos s pos
   have hr1:=Lib.rune_le s pos
   by_cases hc:ch s pos < 128
   ·have hd:Utf8.decode s pos = (ch s pos,1):=by rw [decode_ascii s pos hp (by rw [ch_get s pos hp];exact hc),ch_get s pos hp]
    rw [hd] at hnx
    have hit2:=Lib.iterAt_heap wr w'.heap.size s pos (pos + 1) hit
    have hbw2:=Lib.below_iterAt hbw (k:=w'.heap.size) (Nat.le_refl _) s (pos + 1)
    have hcon:=Lib.contains_iff_indexByte chars.data.toList (s[pos]'hp)
    have cR:=fun w=>Any.strings_IndexRune_ascii { Tryz.lays153 with } chars (ch s pos:Int) w (by omega) (by omega)
    have hback:((ch s pos:Int)).toNat.toUInt8 = s[pos]'hp:=by rw [← ch_get s pos hp];simp
    rw [hback] at cR
    dsimp only at hnx
    have Hx:Hid (s.data.toList[pos]? = some (s[pos]'hp)):=get_some s pos hp
    clear hd hback hr1 hwd
    generalize s[pos]'hp = x at hcon cR Hx
    generalize ch s pos = c at hnx cR
    generalize wr.iterAt w'.heap.size s (pos + 1) = W at hnx hit2 hbw2
    cases hin:chars.data.toList.contains x
    ·rw [hin] at hcon
     have hlt:¬ ((0:Int) ≤ Lib.indexByte chars.data.toList x):=of_decide_eq_false hcon.symm
     have HH:Hid (chars.data.toList.contains x = false):=hin
     clear hcon hin
     generalize Lib.indexByte chars.data.toList x = q at hlt cR
     go_wp2_with (go_at_call 174;refine (cR _).mono ?_;rintro e w2 ⟨rfl,hw2⟩;subst w2)
     go_roundg g
     case measure=>omega
     case rel=>exact ⟨pos + 1,hit2,hbw2,HN.out.succ Hx.out HH.out,by omega,by omega⟩
    ·rw [hin] at hcon
     have hge:(0:Int) ≤ Lib.indexByte chars.data.toList x:=of_decide_eq_true hcon.symm
     have HH:Hid (chars.data.toList.contains x = true):=hin
     clear hcon hin
     generalize Lib.indexByte chars.data.toList x = q at hge cR
     go_wp2_with (go_at_call 174;refine (cR _).mono ?_;rintro e w2 ⟨rfl,hw2⟩;subst w2)
     go_ret
     exact ⟨by rw [Lib.indexAny_hit HN.out Hx.out HH.out];rfl,hbw2⟩
   ·obtain ⟨d1,d2,d3,d4⟩:=dec_high s pos hp (by omega)
    have HN2:Hid (Lib.NoAny s.data.toList chars.data.toList (pos + (Utf8.decode s pos).2)):=noAny_more HC.out HN.out _ d4
    have hit2:=Lib.iterAt_heap wr w'.heap.size s pos (pos + (Utf8.decode s pos).2) hit
    have hbw2:=Lib.below_iterAt hbw (k:=w'.heap.size) (Nat.le_refl _) s (pos + (Utf8.decode s pos).2)
    have cR:=fun w=>IndexRune_high chars (Utf8.decode s pos).1 w d1 hr1 HI.out
    clear d4
    generalize (Utf8.decode s pos).1 = R at *
    generalize (Utf8.decode s pos).2 = K at *
    generalize wr.iterAt w'.heap.size s (pos + K) = W at hnx hit2 hbw2
    have hlt:=(Array.getElem?_eq_some_iff.1 hit2).1
    go_wp2_with (go_at_call 174;refine (cR _).mono ?_;rintro e w2 ⟨rfl,hb2⟩)
    go_roundg g
    case measure=>omega
    case rel=>exact ⟨pos + K,(hb2.block w'.heap.size hlt).trans hit2,hbw2.trans (hb2.mono (by omega)),HN2.out,by omega,by omega⟩
  ·have hnx:∀ ty,(Instr.next (.pointer (some ⟨w'.heap.size,0,none⟩)) true ty).run Tryz.prog wr = _:=fun ty=>Lib.run_next_end_at wr w'.heap.size s pos ty hit hp
   obtain rfl:pos = s.size:=by omega
   go_wp2_with fail
   go_ret
   exact ⟨by rw [Lib.indexAny_none (by rw [← Lib.size_eq];exact HN.out)];rfl,hbw⟩
theorem IndexAny_any (s chars:ByteArray) (w:World) (h1:1 ≤ chars.size) (hs:s.size < 4294967281) (hc2:chars.size < 4294967281) (hcs:∀ b ∈ chars.data.toList,b.toNat < 128) :
  Calls Tryz.prog 167 #[.string s,.string chars] w fun e w'=>e = .returned (.int .i64 (Lib.indexAny s.data.toList chars.data.toList)) ∧ Below w.heap.size w w':=by
 have hac:∀ (j:Nat) b,chars.data.toList[j]? = some b → b.toNat < 128:=fun j b hb=>hcs b (List.mem_of_getElem? hb)
 by_cases k1:chars.size = 1
 ·exact (Any.strings_IndexAny_one Tryz.lays153 s chars w k1 hac).mono fun e w' ⟨h1,h2⟩=>⟨h1,h2 ▸ Below.refl _ _⟩
 by_cases h8:s.size ≤ 8
 ·exact IndexAny_short s chars w (by omega) h8 hcs
 ·have h116:(Tryz.prog.info? 152).map (fun i=>(i.zero,i.size)) = some (some (.agg (Array.replicate 256 (.bool false))),256):=by kernel_rfl
  refine (Any.strings_IndexAny_long Tryz.lays153 (zero_of_info h116).1 (zero_of_info h116).2 s chars w (by omega) (by omega) hs hc2 hac).mono fun e w' ⟨h1,h2⟩=>⟨h1,?_⟩
  rw [h2]
  exact ((Below.refl _ _).alloc (Nat.le_refl _) _).alloc (by simp) _
end Go.Proofs.YtchfphakhmifmabGreatDoor

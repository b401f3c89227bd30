/- The law CursorBack. -/
import Derived.Test.YtfhphjgcmbneeaaDoorCuBc
import Derived.Test.YtfhphjgcmbneeaaDoorCuPa
import Derived.Test.YtfhphjgcmbneeaaDoorCuPb
import Derived.Test.YtfhphjgcmbneeaaDoorCuPc
import Derived.Test.YtfhphjgcmbneeaaDoorCuPd
namespace Go.Proofs.YtfhphjgcmbneeaaDoor
open Go.ChangeShapes Go.WideShapes Go.ChangeAt Go.RowKit

theorem mkHid {p : Prop} (h : p) : Hid p := h
set_option maxRecDepth 100000 in
set_option maxHeartbeats 4000000 in
theorem Back_any (a : Option Addr) (L C : Nat) (bi : Nat → Int) (big : Bool) (x : Int) (v4 : Four) (block count : Int) (s : ByteArray) (w : World) (kt : KT w) (hb : Arg w a L bi) (hbi : ∀ j, 0 ≤ bi j ∧ bi j ≤ 255) (hLC : L ≤ C) (hx : 0 ≤ x ∧ x < 18446744073709551616) (hv : FourOk v4)
    (hbl : -9223372036854775808 ≤ block ∧ block ≤ 9223372036854775807) (hct : -9223372036854775808 ≤ count ∧ count ≤ 9223372036854775807) :
    Calls Tryd.prog 3 #[.slice a L C, .bool big, .int .u64 x, fourV v4, .int .i64 block, .int .i64 count, .string s] w fun e w' => e = .returned (.bool true) ∧ Below w.heap.size w w' := by
  have hA1 : cut300 L ≤ 300 := by unfold cut300; split <;> omega
  have hA2 : cut300 L ≤ L := by unfold cut300; split <;> omega
  have hb1 : Arg w a (cut300 L) bi := ⟨fun e => (by have := hb.nil e; omega), fun ad e j hj => hb.cell ad e j (by omega)⟩
  have hS := cutS_size s
  have hM := fourM_ok hv
  have hB1 := abI_ok hbl
  have hC1 := abI_ok hct
  have ok : BkOk (fourM v4) x (abI block % 4294967295) (abI count % 255) (cutS s) := ⟨hM.2.1, hM.2.2.1, hM.2.2.2.1, hM.2.2.2.2, hx, by omega, by omega, hS⟩
  go_enter Tryd.func3, Tryd.ntmps3
  show Code.wp Tryd.prog (bkC (Tryd.f3.body.getD .skip) 0) _ _ _
  refine bk_step (k := 0) rfl (back0 _ _ v4 (mkHid ?_))
  refine bk_step (k := 1) rfl (back1 _ _ hb.nil hLC (mkHid fun _ _ _ _ _ => ?_))
  refine bk_step (k := 2) rfl (back2 _ _ (mkHid fun _ _ _ _ _ => ?_))
  refine bk_step (k := 3) rfl (back3 _ _ (mkHid ?_))
  refine bk_step (k := 4) rfl (back4 _ _ (mkHid fun _ => ?_))
  generalize cut300 L = A at *
  generalize cutS s = s' at *
  have hF := heap_al w (.cells #[.int .u64 v4.a, .int .u64 v4.b, .int .u64 v4.c, .int .u64 v4.d] 24)
  have b1 := bel1 w (.cells #[.int .u64 v4.a, .int .u64 v4.b, .int .u64 v4.c, .int .u64 v4.d] 24)
  have z1 := World.size_alloc w (.cells #[.int .u64 v4.a, .int .u64 v4.b, .int .u64 v4.c, .int .u64 v4.d] 24)
  generalize w.alloc (.cells #[.int .u64 v4.a, .int .u64 v4.b, .int .u64 v4.c, .int .u64 v4.d] 24) = w1 at *
  refine bk_step (k := 5) rfl (back5 _ _ bi (mkHid (hb1.below b1)) hbi hA1 (mkHid fun w2 gB capB h0 b2 R2 hb2 hc2 hg2 _ _ _ _ => ?_))
  refine bk_step (k := 6) rfl (back6 _ _ hA1 h0 R2 hb2 hc2 w1.heap.size hg2 (mkHid fun w3 f0 b3 R3 hf0 _ _ _ _ _ _ _ _ _ _ _ _ => ?_))
  have b13 : Below w1.heap.size w1 w3 := b2.trans b3
  have l3 := R3.lt
  refine bk_step (k := 7) rfl (back7 _ _ (textF f0 0 (A + 300)) (fun c => text_conv w3 gB capB f0 R3 0 (A + 300) c (by omega)) (mkHid fun _ _ => ?_))
  refine bk_step (k := 8) rfl (back8 _ _ (mkHid fun _ _ _ _ _ => ?_))
  have h4 := heap_al w3 hdO
  have b4 := bel1 w3 hdO
  have z4 := World.size_alloc w3 hdO
  change Code.wp _ _ _ _ (w3.alloc hdO)
  generalize w3.alloc hdO = w4 at *
  refine bk_step (k := 9) rfl (back9 _ _ (mkHid fun _ _ _ => ?_))
  have h5 := heap_al w4 (tkO bkG none 0)
  have b5 := bel1 w4 (tkO bkG none 0)
  have z5 := World.size_alloc w4 (tkO bkG none 0)
  generalize w4.alloc (tkO bkG none 0) = w5 at *
  refine bk_step (k := 10) rfl (back10 _ _ (mkHid fun _ _ => ?_))
  have h6 := heap_al w5 (tkO bkL none 0)
  have b6 := bel1 w5 (tkO bkL none 0)
  have z6 := World.size_alloc w5 (tkO bkL none 0)
  generalize w5.alloc (tkO bkL none 0) = w6 at *
  have b36 : Below w3.heap.size w3 w6 := belT (belT b4 b5) b6
  have b16 : Below w1.heap.size w1 w6 := belT b13 b36
  have hF6 := (b16.block w.heap.size (by omega)).trans hF
  refine bk_step (k := 11) rfl (back11 _ _ v4 (lt_of_some hF6) (cell_at hF6 0) (cell_at hF6 1) (cell_at hF6 2) (cell_at hF6 3) (mkHid fun _ _ _ _ _ _ _ _ _ _ _ _ _ => ?_))
  have h7 := heap_al w6 (fourO (fourM v4))
  have b7 := bel1 w6 (fourO (fourM v4))
  generalize w6.alloc (fourO (fourM v4)) = w7 at *
  have m7 : BkM w gB w3.heap.size w4.heap.size w5.heap.size w6.heap.size (fourM v4) w7 :=
    ⟨belT (belT b1 b16) b7, by omega, ((belT b5 (belT b6 b7)).block _ (by omega)).trans h4, ((belT b6 b7).block _ (by omega)).trans h5, (b7.block _ (by omega)).trans h6, h7, by omega, by omega, by omega, by omega⟩
  have R7 := rowIs_below R3 (belT b36 b7) l3
  generalize w3.heap.size = gH at *
  generalize w4.heap.size = gG at *
  generalize w5.heap.size = gL at *
  generalize w6.heap.size = gV at *
  clear hF b1 z1 b2 R2 hb2 hg2 b3 R3 b13 l3 h4 b4 z4 h5 b5 z5 h6 b6 z6 b36 b16 hF6 h7 b7
  refine bk_step (k := 12) rfl (back12 _ _ hbl (mkHid fun _ _ _ _ _ => ?_))
  refine bk_step (k := 13) rfl (back13 _ _ hct (mkHid fun _ _ _ _ _ => ?_))
  refine bk_step (k := 14) rfl (back14 _ _ hB1 (mkHid fun _ _ => ?_))
  refine bk_step (k := 15) rfl (back15 _ _ hC1 (mkHid fun _ _ => ?_))
  generalize abI block % 4294967295 = bl at *
  generalize abI count % 255 = ct at *
  generalize fourM v4 = v at *
  refine bk_step (k := 16) rfl (back16 _ _ (fun c w' => w7.heap.size ≤ c ∧ BkS w gB gH gG gL gV v A capB big c A f0 w') (bc_new m7 R7 hf0 hc2 hA1) (mkHid fun c w8 q _ _ _ _ _ _ _ _ => ?_))
  obtain ⟨hc8, S8⟩ := q
  have n8 := m7.lts hc8
  have c8 : w.heap.size ≤ c := Nat.le_trans m7.bel.size hc8
  refine bk_step (k := 17) rfl (back17 _ _ v _ (ld_hd S8.m.hH) (ld_four S8.m.hV) (bc_head S8 kt c8 n8 ok hM.1) (mkHid fun w9 S9 _ _ _ _ _ _ _ _ _ _ _ _ _ => ?_))
  refine bk_step (k := 18) rfl (back18 _ _ _ (bc_claim S9 c8 n8) (mkHid fun wa Sa _ _ _ _ _ => ?_))
  refine bk_step (k := 19) rfl (back19 _ _ hA1 _ _ _ (bc_put Sa kt c8 n8 ok) (fun w1 r1 => (tk_of r1.m.hG).load) (fun w1 r1 => bc_dim r1 kt c8 n8 ok) (fun w1 r1 => (tk_of r1.m.hL).load) (fun w1 r1 => bc_data r1 kt c8 n8 ok) (mkHid fun wb Sb _ _ _ _ _ _ _ _ _ _ _ _ _ _ _ _ _ _ _ _ _ _ _ _ _ _ _ _ _ _ _ => ?_))
  refine bk_step (k := 20) rfl (back20 _ _ hA1 hS (mkHid fun _ _ _ _ _ _ => ?_))
  have eE : ((A + 34 + s'.size : Nat) : Int) = (A : Int) + 34 + (s'.size : Int) := by omega
  have T1 : textF (bk4 big A f0 v x bl ct s') 0 A = (textF f0 0 (A + 300)).extract 0 A := (textF_congr fun j _ hj => bk_out (.inl (by omega))).trans (text_cut f0 (A + 300) 0 A (Nat.zero_le _) (by omega)).symm
  have T2 : textF (bk4 big A f0 v x bl ct s') (A + 34 + s'.size) (A + 300 - (A + 34 + s'.size)) = (textF f0 0 (A + 300)).extract (A + 34 + s'.size) (A + 300) := (textF_congr fun j hj _ => bk_out (.inr hj)).trans (text_cut f0 (A + 300) (A + 34 + s'.size) (A + 300) (by omega) (Nat.le_refl _)).symm
  refine bk_step (k := 21) rfl (back21 _ _ hA1 hS hc2 (textF_size f0 0 (A + 300)) (fun n => (eE ▸ bc_at Sb n)) (fun n => Start_any (Sb.cs.below dN))
    (fun n c => (text_conv (wb.drewN n) gB capB _ (Sb.cs.below dN).row 0 A c (by omega)).trans (congrArg (fun t => Result.ok (Value.string t) (wb.drewN n)) T1))
    (fun n c => (text_conv (wb.drewN n) gB capB _ (Sb.cs.below dN).row (A + 34 + s'.size) (A + 300 - (A + 34 + s'.size)) c (by omega)).trans (congrArg (fun t => Result.ok (Value.string t) (wb.drewN n)) T2)) (mkHid fun nn _ _ _ _ _ _ _ _ _ _ _ _ _ _ _ _ _ _ _ _ _ _ _ _ _ _ _ _ _ _ _ _ _ => ?_))
  have mc : BkM w gB gH gG gL gV v (wb.drewN nn) := Sb.m.below dN
  have Rc := (Sb.cs.below (dN (n := nn))).row
  have Bc := Sb.cs.bd
  generalize wb.drewN nn = wc at *
  refine bk_step (k := 22) rfl (back22 _ _ (fun c w' => wc.heap.size ≤ c ∧ BkS w gB gH gG gL gV v A capB big c A (bk4 big A f0 v x bl ct s') w') (bc_new mc Rc Bc hc2 hA1) (mkHid fun d wd q _ _ _ _ _ _ _ _ => ?_))
  obtain ⟨hcd, Sd⟩ := q
  have nd := mc.lts hcd
  have cd : w.heap.size ≤ d := Nat.le_trans mc.bel.size hcd
  refine bk_step (k := 23) rfl (back23 _ _ (mkHid fun _ _ _ _ _ _ => ?_))
  refine bk_step (k := 24) rfl (back24 _ _ v _ (ld_hd Sd.m.hH) (bc_ghead Sd kt cd nd ok) (mkHid fun we Se _ _ _ _ _ _ => ?_))
  have hU := heap_al we (fourO v)
  have bU := bel1 we (fourO v)
  have Sf : BkS w gB gH gG gL gV v A capB big d (A + 16) (bk4 big A f0 v x bl ct s') (we.alloc (fourO v)) := ⟨Se.cs.below bU, Se.m.below bU⟩
  have uU : we.heap.size ≠ d := by have := Se.cs.lt; omega
  have uB : we.heap.size ≠ gB := by have := Se.cs.row.lt; omega
  generalize we.alloc (fourO v) = wf at *
  generalize we.heap.size = gU at *
  have CLU : Calls Tryd.prog 8 #[.pointer (some ⟨d, 0, none⟩), .int .i64 8] wf fun e w' => e = .returned (.tuple #[.int .i64 ((A : Int) + 16), .int .i64 0]) ∧ (BkS w gB gH gG gL gV v A capB big d (A + 24) (bk4 big A f0 v x bl ct s') w' ∧ w'.heap[gU]? = some (fourO v)) := by
    have h := Claim_any Sf.cs 8
    have hz : clE (A + 300) (A + 16) 8 = 0 ∧ clP (A + 300) (A + 16) 8 = ((A + 16 : Nat) : Int) ∧ clN (A + 300) (A + 16) 8 = A + 16 + 8 := clZ (n := 8) (by omega)
    have e : ((A + 16 : Nat) : Int) = (A : Int) + 16 := by omega
    rw [hz.1, hz.2.1, hz.2.2, e] at h
    exact h.mono fun e w' q => ⟨q.1, ⟨q.2.1, Sf.m.cb q.2.2 cd nd⟩, (q.2.2.block gU (lt_of_some hU) uU uB).trans hU⟩
  refine bk_step (k := 25) rfl (back25 _ _ _ CLU (mkHid fun wg q _ _ _ _ _ => ?_))
  obtain ⟨Sg, hUg⟩ := q
  refine bk_step (k := 26) rfl (back26 _ _ x _ (bc_get Sg kt ok) (mkHid fun wh q _ _ _ _ _ _ => ?_))
  obtain ⟨Sh, bh⟩ := q
  have hUh := (bh.block gU (lt_of_some hUg)).trans hUg
  refine bk_step (k := 27) rfl (back27 _ _ bl ct _ (tk_of Sh.m.hG).load (bc_gdim Sh kt cd nd ok) (mkHid fun wi q _ _ _ _ _ _ _ => ?_))
  obtain ⟨Si, ki⟩ := q
  have hUi := (ki.block gU (lt_of_some hUh) uU uB).trans hUh
  refine bk_step (k := 28) rfl (back28 _ _ s' _ (tk_of Si.m.hL).load (bc_gdata Si kt cd nd ok) (mkHid fun wj q _ _ _ _ _ _ => ?_))
  obtain ⟨Sj, kj⟩ := q
  have hUj := (kj.block gU (lt_of_some hUi) uU uB).trans hUi
  have ATj := At_any Sj.cs
  rw [eE] at ATj
  refine bk_step (k := 29) rfl (back29 _ _ v (ld_four Sj.m.hV) (ld_four hUj) ATj (mkHid ?_))
  intros
  show Code.wp Tryd.prog Code.ret _ _ _
  have BF := Sj.m.bel
  clear S8 S9 Sa Sb Sd Se Sf Sg Sh Si Sj
  go_wp2_with fail
  go_ret
  exact ⟨rfl, BF⟩
end Go.Proofs.YtfhphjgcmbneeaaDoor

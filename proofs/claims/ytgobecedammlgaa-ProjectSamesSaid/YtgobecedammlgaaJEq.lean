/- Are two forms the same: lists of tokens. -/
import Derived.Test.YtgobecedammlgaaJSo
import Derived.Deep.WholeRow
namespace Go.Proofs.Ytgobecedammlgaa
open Go.ChangeShapes Go.WideShapes Go.ChangeAt Go.RowKit

/-- A store of something great. -/
theorem wpList_st {P : Program} {ops : Array Oper} {Q : Exit → Act → World → Prop} {a : Act} {w w' : World} {rest : List Oper} {o : Oper} (ty : TypeId) (x y : Operand) (ho : o.op = .store ty x y)
    (hw : Region.wanted o (yielded ops a.tmps) = true) (p v : Value) (hx : a.eval x = p) (hy : a.eval y = v) (hr : (Instr.storeAt ty p v).run P w = .ok () w') (h : wpList P ops Q rest (a.put o.dst undef) w') : wpList P ops Q (o :: rest) a w := by
  refine wpList_step fun K hK => ?_
  rw [if_pos hw]
  unfold Oper.wp execOp
  simp only [ho, hx, hy, hr, Sem.run_bind, Result.andThen_ok]
  exact hK _ _ h
theorem tkC_one (t : Tk) (pc : Option Addr) (cc : Nat) : ∀ u ∈ tkC t pc cc, u.oneCell' = true := by
  intro u hu
  simp only [tkC, List.mem_cons, List.not_mem_nil, or_false] at hu
  rcases hu with rfl | rfl | rfl | rfl | rfl | rfl | rfl | rfl | rfl | rfl | rfl | rfl | rfl | rfl | rfl | rfl | rfl | rfl | rfl | rfl | rfl <;> rfl
theorem st_new (w : World) (z : Array Value) (hz : z.size = 21) (t : Tk) (pc : Option Addr) (cc : Nat) : (Instr.storeAt 38 (.pointer (some ⟨w.heap.size, 0, none⟩)) (tkV t pc cc)).run Try.prog (w.alloc (.cells z 38)) = .ok () (w.alloc (tkO t pc cc)) :=
  run_storeAt_new w 38 z (tkC t pc cc).toArray infoTk hz (all_oneCell_toArray (tkC_one t pc cc))
set_option maxRecDepth 20000 in
set_option maxHeartbeats 4000000 in
theorem eqToks_any (l m : List Tk) (pa pb : Option Addr) (ca cb : Nat) (w : World) (ha : TkL w pa w.heap.size l) (hb : TkL w pb w.heap.size m) :
    Calls Try.prog 9 #[.slice pa l.length ca, .slice pb m.length cb, .func (.func 10) #[] #[]] w fun r w' => Ans r (l = m) ∧ Below w.heap.size w w' := by
  by_cases hlm : l.length = m.length
  · have b1 : ((l.length : Int) != (m.length : Int)) = false := by simp [hlm]
    have HL : Hid (l.length = m.length) := ⟨hlm⟩
    clear hlm
    have hll := ha.len
    go_enter Try.func9, Try.ntmps9
    go_wp2_with fail
    clear b1
    go_loopw [7, 8, 9, 17] (fun i7 i8 i9 i wr => ∃ j : Nat, j ≤ l.length ∧ i = .int .i64 j ∧ Below w.heap.size w wr ∧ Hid (l = m ↔ l.drop j = m.drop j) ∧ i7 = i7 ∧ i8 = i8 ∧ i9 = i9) (fun _ _ _ i _ => l.length - (RowKit.intOf i).toNat)
    case atStart => exact ⟨0, Nat.zero_le _, rfl, Below.refl _ _, ⟨Iff.rfl⟩, rfl, rfl, rfl⟩
    case round =>
      obtain ⟨j, hj, rfl, hB, hq, -⟩ := hrel
      by_cases hlt : j < l.length
      · obtain ⟨a, hx⟩ : ∃ a, l[j]? = some a := ⟨l[j], List.getElem?_eq_getElem hlt⟩
        obtain ⟨b, hy⟩ : ∃ b, m[j]? = some b := ⟨m[j]'(by have := HL.out; omega), List.getElem?_eq_getElem (by have := HL.out; omega)⟩
        obtain ⟨g, o, p1, c1, rfl, hg, hA, hA1, hA2, hAo⟩ := (ha.below hB).at hx
        obtain ⟨g2, o2, p2, c2, rfl, hg2, hC, hC1, hC2, hCo⟩ := (hb.below hB).at hy
        have hlti : (j : Int) < l.length := by omega
        have hltm : (j : Int) < m.length := by have := HL.out; omega
        have hd : Hid (l = m ↔ a = b ∧ l.drop (j + 1) = m.drop (j + 1)) := ⟨by rw [hq.out, drop_at hx, drop_at hy, List.cons.injEq]⟩
        have l1 := hA.load
        have l2 := (hC.below (Nat.lt_of_lt_of_le hg2 hB.size) (bel1 wr (tkO a p1 c1))).load
        have l3 := (tk_of (two_1 wr (tkO a p1 c1) (tkO b p2 c2))).load
        have l4 := (tk_of (two_2 wr (tkO a p1 c1) (tkO b p2 c2))).load
        have s1 := fun z hz => st_new wr z hz a p1 c1
        have s2 := fun z hz => st_new (wr.alloc (tkO a p1 c1)) z hz b p2 c2
        simp only [World.size_alloc] at s2
        have HT : Hid (Below w.heap.size w ((wr.alloc (tkO a p1 c1)).alloc (tkO b p2 c2))) := ⟨hB.trans ((two_b wr _ _).mono hB.size)⟩
        have c := sameToken_any a b p1 p2 c1 c2 ((wr.alloc (tkO a p1 c1)).alloc (tkO b p2 c2)) ((hA1.below ((two_b wr _ _).mono hB.size)).mono HT.out.size) ((hC1.below ((two_b wr _ _).mono hB.size)).mono HT.out.size) hAo.cst
        replace c : Hid _ := ⟨c⟩
        clear hq hx hy hA hC hA1 hC1 hA2 hC2 hAo hCo ha hb
        replace l1 : Hid _ := ⟨l1⟩
        replace l2 : Hid _ := ⟨l2⟩
        replace l3 : Hid _ := ⟨l3⟩
        replace l4 : Hid _ := ⟨l4⟩
        replace s1 : Hid _ := ⟨s1⟩
        replace s2 : Hid _ := ⟨s2⟩
        go_wp2_with (first
          | (guard_target =~ wpList _ _ _ (Oper.mk _ (Op.load 38 _) _ _ _ _ :: _) _ _; go_must (first | refine wpList_ld 38 (.tmp 20) rfl rfl _ _ rfl l1.out ?_ | refine wpList_ld 38 (.tmp 24) rfl rfl _ _ rfl l2.out ?_ | refine wpList_ld 38 (.tmp 8) rfl rfl _ _ rfl l3.out ?_ | refine wpList_ld 38 (.tmp 9) rfl rfl _ _ rfl l4.out ?_); simp only [pts])
          | (guard_target =~ wpList _ _ _ (Oper.mk _ (Op.store 38 _ _) _ _ _ _ :: _) _ _; go_must (first | refine wpList_st 38 (.tmp 8) (.tmp 21) rfl rfl _ _ rfl rfl (s1.out _ rfl) ?_ | refine wpList_st 38 (.tmp 9) (.tmp 25) rfl rfl _ _ rfl rfl (s2.out _ rfl) ?_); simp only [pts]))
        refine c.out.mono ?_
        rintro _ w1 ⟨⟨(_ | _), rfl, hbb⟩, hb1⟩
        · have HX : Hid (¬ l = m) := ⟨fun e => absurd (hbb.2 (hd.out.1 e).1) (by decide)⟩
          clear c l1 l2 l3 l4 s1 s2 hbb hd
          go_wp2_with fail
          go_ret
          exact ⟨Ans.no HX.out, HT.out.trans (hb1.mono HT.out.size)⟩
        · have HX : Hid (l = m ↔ l.drop (j + 1) = m.drop (j + 1)) := ⟨by rw [hd.out]; simp [hbb.1 rfl]⟩
          clear c l1 l2 l3 l4 s1 s2 hbb hd
          go_wp2_with fail
          go_roundw
          case rel => exact ⟨j + 1, by omega, by go_num, HT.out.trans (hb1.mono HT.out.size), HX, trivial, trivial, trivial⟩
          case measure => simp [RowKit.intOf]; omega
      · obtain rfl : j = l.length := by omega
        have HX : Hid (l = m) := ⟨by rw [hq.out, List.drop_length, HL.out, List.drop_length]⟩
        clear hq
        go_wp2_with fail
        go_ret
        exact ⟨Ans.yes HX.out, hB⟩
  · have b1 : ((l.length : Int) != (m.length : Int)) = true := by simp; omega
    have HX : Hid (¬ l = m) := ⟨fun e => hlm (by rw [e])⟩
    clear hlm
    go_enter Try.func9, Try.ntmps9
    go_wp2_with fail
    go_ret
    exact ⟨Ans.no HX.out, Below.refl _ _⟩
abbrev fmC (f : Fm) (pp : Option Addr) (cp : Nat) : Array Value := #[.int .i64 f.ord, .int .i64 f.sch, .int .i64 f.ver, .int .i64 f.hsz, .int .i64 f.hb.p, .int .i64 f.hb.o, .int .i64 f.ht.p, .int .i64 f.ht.o, .int .i64 f.hs.p, .int .i64 f.hs.o, .int .i64 f.hv.p, .int .i64 f.hv.o, .slice pp f.toks.length cp]
set_option maxRecDepth 20000 in
set_option maxHeartbeats 4000000 in
theorem same_any (f g : Fm) (pa pb : Option Addr) (ca cb : Nat) (w : World) (ha : TkL w pa w.heap.size f.toks) (hb : TkL w pb w.heap.size g.toks) :
    Calls Try.prog 8 #[fmV f pa ca, fmV g pb cb] w fun r w' => Ans r (f = g) ∧ Below w.heap.size w w' := by
  have cE : ∀ W, Below w.heap.size w W → Calls Try.prog 9 #[.slice pa f.toks.length ca, .slice pb g.toks.length cb, .func (.func 10) #[] #[]] W fun r w' => Ans r (f.toks = g.toks) ∧ Below W.heap.size W w' := fun W HB => eqToks_any f.toks g.toks pa pb ca cb W ((ha.below HB).mono HB.size) ((hb.below HB).mono HB.size)
  replace cE : Hid _ := ⟨cE⟩
  clear ha hb
  obtain ⟨or1, sc1, ve1, hz1, ⟨bp1, bo1⟩, ⟨tp1, to1⟩, ⟨sp1, so1⟩, ⟨vp1, vo1⟩, l1⟩ := f
  obtain ⟨or2, sc2, ve2, hz2, ⟨bp2, bo2⟩, ⟨tp2, to2⟩, ⟨sp2, so2⟩, ⟨vp2, vo2⟩, l2⟩ := g
  simp only [fmV] at cE ⊢
  generalize hn1 : l1.length = n1 at cE ⊢
  generalize hn2 : l2.length = n2 at cE ⊢
  go_enter Try.func8, Try.ntmps8
  go_wp2_with fail
  rotate_right
  all_goals first
    | (go_ret; refine ⟨⟨_, rfl, ?_⟩, two_b _ _ _⟩; simp [*]; done)
    | skip
  refine (cE.out _ (two_b _ _ _)).mono ?_
  rintro _ w1 ⟨⟨b, rfl, hbb⟩, hb1⟩
  replace hbb : Hid (b = true ↔ l1 = l2) := ⟨hbb⟩
  clear cE
  go_wp2_with fail
  all_goals (go_ret; refine ⟨⟨_, rfl, ?_⟩, (two_b _ _ _).trans (hb1.mono (two_b _ _ _).size)⟩; have hbb := hbb.out; simp [*])
theorem Same_any (f g : Fm) (pa pb : Option Addr) (ca cb : Nat) (w : World) (ha : TkL w pa w.heap.size f.toks) (hb : TkL w pb w.heap.size g.toks) :
    Calls Try.prog 5 #[fmV f pa ca, fmV g pb cb] w fun r w' => Ans r (f = g) ∧ Below w.heap.size w w' := by
  have c : ∀ W, Below w.heap.size w W → Calls Try.prog 8 #[fmV f pa ca, fmV g pb cb] W fun r w' => Ans r (f = g) ∧ Below W.heap.size W w' := fun W HB => same_any f g pa pb ca cb W ((ha.below HB).mono HB.size) ((hb.below HB).mono HB.size)
  replace c : Hid _ := ⟨c⟩
  clear ha hb
  go_enter Try.func5, Try.ntmps5
  go_wp2_with (go_at_call 8; refine (c.out _ (two_b _ _ _)).mono ?_; rintro _ w1 ⟨⟨b, rfl, hbb⟩, hb1⟩; replace hbb : Hid _ := ⟨hbb⟩; clear c)
  go_ret
  exact ⟨⟨b, rfl, hbb.out⟩, (two_b _ _ _).trans (hb1.mono (two_b _ _ _).size)⟩
end Go.Proofs.Ytgobecedammlgaa

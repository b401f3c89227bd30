/- OsU, OsR, OsW. -/
import Derived.Test.YtepnmfgbflogkaaDoorF34
import Derived.Test.YtepnmfgbflogkaaDoorF35
import Derived.Test.YtepnmfgbflogkaaDoorF06
import Derived.Test.YtepnmfgbflogkaaDoorF14
import Derived.Deep.AppendSrc
import Derived.Maps.AppendAt
namespace Go.Proofs.YtepnmfgbflogkaaDoor
open Go.ChangeShapes Go.WideShapes Go.ChangeAt Go.RowKit Go.Shelf Go.Maps

/-- A machine whose blocks lie from b on and are none of E. -/
def Mo (f : Fm) (b : Nat) (E : List Nat) (w : World) (a : Nat) (s : Ms) : Prop := ∃ U, Mc f w a s U ∧ ∀ k, U k → b ≤ k ∧ k ∉ E
theorem Mo.below {f : Fm} {b : Nat} {E : List Nat} {w w' : World} {a : Nat} {s : Ms} (h : Mo f b E w a s) (hb : Below w.heap.size w w') : Mo f b E w' a s := by
  obtain ⟨U, h1, h2⟩ := h
  exact ⟨U, h1.below hb, h2⟩
theorem Mo.add {f : Fm} {b B : Nat} {E : List Nat} {w : World} {a : Nat} {s : Ms} (h : Mo f b E w a s) (hB : w.heap.size ≤ B) : Mo f b (B :: E) w a s := by
  obtain ⟨U, h1, h2⟩ := h
  refine ⟨U, h1, fun k hk => ⟨(h2 k hk).1, ?_⟩⟩
  have h3 := h1.lt k hk
  have h4 := (h2 k hk).2
  simp only [List.mem_cons, not_or]
  exact ⟨by omega, h4⟩
theorem Mo.new {f : Fm} {b : Nat} {w w' : World} {a : Nat} (hb : b ≤ w.heap.size) (hm : Mc f w' a newZ (fun k => w.heap.size ≤ k ∧ k < w'.heap.size)) : Mo f b [] w' a newZ :=
  ⟨_, hm, fun _ hk => ⟨Nat.le_trans hb hk.1, by simp⟩⟩
theorem Mo.done {f : Fm} {b : Nat} {E : List Nat} {w : World} {a : Nat} {s : Ms} (h : Mo f b E w a s) {v : Bool} (hb : doneB f.toks s = v) : Calls Tryd.prog 7 #[.pointer (some ⟨a, 0, none⟩)] w fun r w' => r = .returned (.bool v) ∧ Mo f b E w' a s ∧ Below w.heap.size w w' := by
  obtain ⟨U, h1, h2⟩ := h
  subst hb
  exact (Done_mc h1).mono fun r w' ⟨e, hb⟩ => ⟨e, Mo.below ⟨U, h1, h2⟩ hb, hb⟩
theorem Mo.inside {f : Fm} {b : Nat} {E : List Nat} {w : World} {a : Nat} {s : Ms} (h : Mo f b E w a s) {n : Nat} (hn : insZ s = n) : Calls Tryd.prog 8 #[.pointer (some ⟨a, 0, none⟩)] w fun r w' => r = .returned (.int .i64 (n : Int)) ∧ Mo f b E w' a s ∧ Below w.heap.size w w' := by
  obtain ⟨U, h1, h2⟩ := h
  subst hn
  exact (Inside_mc h1).mono fun r w' ⟨e, hb⟩ => ⟨e, Mo.below ⟨U, h1, h2⟩ hb, hb⟩
theorem Mo.left {f : Fm} {b : Nat} {E : List Nat} {w : World} {a : Nat} {s : Ms} (h : Mo f b E w a s) {ns : List Nat} (hn : lfZ s = ns) : Calls Tryd.prog 9 #[.pointer (some ⟨a, 0, none⟩)] w fun r w' => ∃ pp cp, r = .returned (.slice pp ns.length cp) ∧ NSl w' pp ns ∧ Mo f b E w' a s ∧ Below w.heap.size w w' := by
  obtain ⟨U, h1, h2⟩ := h
  subst hn
  refine (Left_mc h1).mono ?_
  rintro r w' ⟨v, e, hN, hb⟩
  obtain ⟨pp, cp, rfl, hs⟩ := hN.sl
  exact ⟨pp, cp, e, hs, Mo.below ⟨U, h1, h2⟩ hb, hb⟩
theorem Mo.step {f : Fm} (hz : chkZ f = none) (hl : f.toks.length ≤ 733007751850) {b : Nat} {E : List Nat} {w : World} {a : Nat} {s s' : Ms} {e : Int} (c : Cl) (h : Mo f b E w a s) (hb : b ≤ w.heap.size) (hE : ∀ k ∈ E, k < w.heap.size) (hco : i64ok c.cnt) (hnm : c.nm.size ≤ maxLen) (h1 : (stepZ f.toks s c.k c.cnt c.nm).1 = e) (h2 : (stepZ f.toks s c.k c.cnt c.nm).2 = s') :
    Calls Tryd.prog 11 #[.pointer (some ⟨a, 0, none⟩), caV c] w fun r w' => r = .returned (.int .i64 e) ∧ Mo f b E w' a s' ∧ Below b w w' ∧ ∀ k ∈ E, w'.heap[k]? = w.heap[k]? := by
  obtain ⟨U, q1, q2⟩ := h
  subst h1 h2
  refine (Step_mc f hz hl a s U c w q1 hco hnm).mono ?_
  rintro r w' ⟨e, hm, hf⟩
  refine ⟨e, ⟨grw U w w', hm, fun k hk => ?_⟩, hf.below (fun k hk => (q2 k hk).1) hb, fun k hk => hf.block k (hE k hk) fun hU => (q2 k hU).2 hk⟩
  rcases hk with hk | hk
  · exact q2 k hk
  · exact ⟨Nat.le_trans hb hk.1, fun hm => by have := hE k hm; omega⟩
theorem NSl.mk1 (w : World) (n : Nat) : NSl (w.alloc (.cells #[.int .i64 (n : Int)] 3)) (some ⟨w.heap.size, 0, none⟩) [n] := fun i m hi => by
  cases i with
  | zero =>
    cases hi
    exact ⟨w.heap.size, rfl, by rw [World.size_alloc]; omega, cell_at (heap_al _ _) 0⟩
  | succ i => cases hi
/-- The calls as cells. -/
def ocC (c : Oc) : List Value := [.int .i64 c.k, .string c.nm, .slice none 0 0, .int .i64 c.cnt, .string ⟨#[]⟩]
def ocCs : List Oc → List Value
  | [] => []
  | c :: r => ocC c ++ ocCs r
theorem ocCs_get : ∀ (l : List Oc) (i : Nat) (t : Oc), l[i]? = some t → ∀ j, j < 5 → (ocCs l)[i * 5 + j]? = (ocC t)[j]?
  | [], _, _, h, _, _ => by cases h
  | a :: r, 0, t, h, j, hj => by
    cases h
    rw [ocCs, Nat.zero_mul, Nat.zero_add, List.getElem?_append_left (by show j < 5; omega)]
  | a :: r, i + 1, t, h, j, hj => by
    have ih := ocCs_get r i t h j hj
    have hl : (ocC a).length = 5 := rfl
    rw [ocCs, List.getElem?_append_right (by omega), hl, ← ih]
    congr 1
    omega
theorem own_nm : ∀ c ∈ ownC, i64ok c.cnt ∧ c.nm.size ≤ maxLen := by
  have h : ownC.all (fun c => iB c.cnt && decide (c.nm.size ≤ maxLen)) = true := by decide +kernel
  intro c hc
  have := List.all_eq_true.1 h c hc
  simp only [Bool.and_eq_true, iB, decide_eq_true_eq] at this
  exact this
theorem own_nil : ∀ k ∈ ([] : List Nat), k < 0 := by simp
set_option maxRecDepth 20000 in
set_option maxHeartbeats 4000000 in
theorem runs_any (w : World) (kt : KT w) (mt : MT w) : Calls Tryd.prog 5 #[] w fun r w' => r = .returned (.bool true) ∧ Below w.heap.size w w' := by
  have cNew : Hid (∀ (W : World) (g : Nat), Below w.heap.size w W → TkL W (some ⟨g, 0, none⟩) W.heap.size ownL → Calls Tryd.prog 6 #[fmV ownF (some ⟨g, 0, none⟩) 14] W fun r w' => ∃ a, r = .returned (.tuple #[.pointer (some ⟨a, 0, none⟩), .int .i64 0]) ∧ Mo ownF w.heap.size [] w' a newZ ∧ Below w.heap.size w w') := ⟨fun W g hb tl => (New_mc ownF (some ⟨g, 0, none⟩) 14 W (chkC_of ownF _ 14 W tl (kt.up hb) (mt.below mt.pos hb)) tl own_chk).mono fun r w' ⟨a, e, hm, hb'⟩ => ⟨a, e, Mo.new hb.size hm, hb.trans (hb'.mono hb.size)⟩⟩
  have hL : Hid (ownF.toks.length ≤ 733007751850) := ⟨by decide⟩
  have h0 : Hid (i64ok 0) := ⟨⟨by decide, by decide⟩⟩
  have hn0 : Hid ((⟨#[]⟩ : ByteArray).size ≤ maxLen) := ⟨by decide⟩
  have hn1 : Hid ((⟨#[100]⟩ : ByteArray).size ≤ maxLen) := ⟨by decide⟩
  have hr0 : Hid ((stepZ ownF.toks newZ 2 0 ⟨#[]⟩).2 = newZ) := ⟨stepZ_err _ _ _ _ _ (by have h := own_r0; intro e; have h' : (stepZ ownF.toks newZ 2 0 ⟨#[]⟩).1 = 140 := h; rw [h'] at e; exact absurd e (by decide))⟩
  clear kt mt
  go_enter Tryd.func5, Tryd.ntmps5
  go_upto_region 5 with (first
    | (go_at_call 12; refine (own_any _).mono ?_; rintro _ w1 ⟨g, rfl, tl1, hb1⟩; have cN := cNew.out w1 g hb1 tl1; clear tl1 hb1)
    | (go_at_call 6; refine cN.mono ?_; rintro _ w2 ⟨a, rfl, hM, hB⟩; replace hM : Hid _ := ⟨hM⟩; replace hB : Hid _ := ⟨hB⟩; clear cN)
    | (go_at_call 7; refine (hM.out.done own_d0).mono ?_; rintro _ w3 ⟨rfl, hM3, hb3⟩; replace hM : Hid _ := ⟨hM3⟩; replace hB : Hid (Below w.heap.size w w3) := ⟨hB.out.trans (hb3.mono hB.out.size)⟩; clear hM3 hb3)
    | (go_at_call 11; refine (hM.out.step own_chk hL.out ⟨2, ⟨#[]⟩, .slice none 0 0, 0, ⟨#[]⟩⟩ hB.out.size (by simp) h0.out hn0.out own_r0 hr0.out).mono ?_; rintro _ w4 ⟨rfl, hM3, hb3, -⟩; replace hM : Hid _ := ⟨hM3⟩; replace hB : Hid (Below w.heap.size w w4) := ⟨hB.out.trans hb3⟩; clear hM3 hb3))
  have hC : (w4.alloc (.cells (ocCs ownC).toArray 45)).heap[w4.heap.size]? = some (.cells (ocCs ownC).toArray 45) := heap_al _ _
  have hb5 := bel1 w4 (.cells (ocCs ownC).toArray 45)
  replace hM : Hid (Mo ownF w.heap.size [w4.heap.size] (w4.alloc (.cells (ocCs ownC).toArray 45)) a newZ) := ⟨(hM.out.add (Nat.le_refl _)).below hb5⟩
  replace hB : Hid (Below w.heap.size w (w4.alloc (.cells (ocCs ownC).toArray 45))) := ⟨hB.out.trans (hb5.mono hB.out.size)⟩
  have hlt : Hid (w4.heap.size < (w4.alloc (.cells (ocCs ownC).toArray 45)).heap.size) := ⟨by rw [World.size_alloc]; omega⟩
  go_loopw [35] (fun q wr => ∃ j : Nat, j ≤ 7 ∧ q = .int .i64 (j : Int) ∧ Hid (Mo ownF w.heap.size [w4.heap.size] wr a (sAt j) ∧ Below w.heap.size w wr ∧ wr.heap[w4.heap.size]? = some (.cells (ocCs ownC).toArray 45) ∧ w4.heap.size < wr.heap.size)) (fun q _ => 7 - (RowKit.intOf q).toNat)
  case atStart => exact ⟨0, Nat.zero_le _, by go_num, ⟨hM.out, hB.out, hC, hlt.out⟩⟩
  case round =>
    clear hM hB hC hlt hb5
    obtain ⟨j, hj, rfl, hI⟩ := hrel
    obtain ⟨hM, hB, hC, hlt⟩ := hI.out
    clear hI
    by_cases hj7 : j < 7
    · obtain ⟨c, hc⟩ : ∃ c, ownC[j]? = some c := ⟨ownC[j]'hj7, List.getElem?_eq_getElem hj7⟩
      have hji : (j : Int) < 7 := by omega
      have cc : ∀ i, i < 5 → wr.cell? ⟨w4.heap.size, j * 5 + i, none⟩ = (ocC c)[i]? := fun i hi => by rw [cell_at hC, List.getElem?_toArray, ocCs_get ownC j c hc i hi]
      have c0 : wr.cell? ⟨w4.heap.size, j * 5, none⟩ = some (.int .i64 c.k) := cc 0 (by omega)
      have c1 : wr.cell? ⟨w4.heap.size, j * 5 + 1, none⟩ = some (.string c.nm) := cc 1 (by omega)
      have c2 : wr.cell? ⟨w4.heap.size, j * 5 + 2, none⟩ = some (.slice none 0 0) := cc 2 (by omega)
      have c3 : wr.cell? ⟨w4.heap.size, j * 5 + 3, none⟩ = some (.int .i64 c.cnt) := cc 3 (by omega)
      have c4 : wr.cell? ⟨w4.heap.size, j * 5 + 4, none⟩ = some (.string ⟨#[]⟩) := cc 4 (by omega)
      have hok := own_nm c (List.mem_of_getElem? hc)
      have hb6 := bel1 wr (caO ⟨c.k, c.nm, .slice none 0 0, c.cnt, ⟨#[]⟩⟩)
      have hs6 : (wr.alloc (caO ⟨c.k, c.nm, .slice none 0 0, c.cnt, ⟨#[]⟩⟩)).heap.size = wr.heap.size + 1 := World.size_alloc _ _
      have cS := Mo.step own_chk hL.out ⟨c.k, c.nm, .slice none 0 0, c.cnt, ⟨#[]⟩⟩ (hM.below hb6) (by have := hB.size; omega) (by simp; omega) hok.1 hok.2 (own_ok j c hc) (sAt_succ hc).symm
      have KK : Hid (∀ w', Below w.heap.size (wr.alloc (caO ⟨c.k, c.nm, .slice none 0 0, c.cnt, ⟨#[]⟩⟩)) w' → (∀ k ∈ [w4.heap.size], w'.heap[k]? = (wr.alloc (caO ⟨c.k, c.nm, .slice none 0 0, c.cnt, ⟨#[]⟩⟩)).heap[k]?) → Below w.heap.size w w' ∧ w'.heap[w4.heap.size]? = some (.cells (ocCs ownC).toArray 45) ∧ w4.heap.size < w'.heap.size) := ⟨fun w' hb' hk => ⟨(hB.trans (hb6.mono hB.size)).trans hb', ((hk _ (by simp)).trans (hb6.block _ hlt)).trans hC, by have := hb'.size; omega⟩⟩
      clear hM hB hC hlt hok hb6 hs6 cc hc
      go_wp2_with (go_at_call 11; refine cS.mono ?_; rintro _ w7 ⟨rfl, hM7, hb7, hk7⟩; have hZ : Hid _ := ⟨KK.out w7 hb7 hk7⟩; clear hb7 hk7; replace hM7 : Hid _ := ⟨hM7⟩)
      go_roundw
      case rel => exact ⟨j + 1, by omega, by go_num, ⟨hM7.out, hZ.out⟩⟩
      case measure => simp [RowKit.intOf]; omega
    · obtain rfl : j = 7 := by omega
      replace hM : Hid (Mo ownF w.heap.size [] wr a (sAt 7)) := ⟨hM.imp fun U hU => ⟨hU.1, fun k hk => ⟨(hU.2 k hk).1, by simp⟩⟩⟩
      replace hB : Hid _ := ⟨hB⟩
      replace hC : Hid _ := ⟨hC⟩
      replace hlt : Hid _ := ⟨hlt⟩
      clear hj hj7
      go_upto_region 10 with fail
      clear hC hlt
      have F1 : True := trivial
      have F2 : True := trivial
      have F3 : True := trivial
      have hr7 : Hid ((stepZ ownF.toks (sAt 7) 3 0 ⟨#[100]⟩).2 = sEnd) := ⟨rfl⟩
      have hr8 : Hid ((stepZ ownF.toks (sAt 7) 3 0 ⟨#[100]⟩).1 = 0) := ⟨own_r7⟩
      have l7 : Hid (lfZ (sAt 7) = [0]) := ⟨own_l7⟩
      have l8 : Hid (lfZ sEnd = []) := ⟨own_l8⟩
      have i7 : Hid (insZ (sAt 7) = 4) := ⟨own_i7⟩
      have i8 : Hid (insZ sEnd = 0) := ⟨own_i8⟩
      have d7 : Hid (doneB ownF.toks (sAt 7) = false) := ⟨own_d7⟩
      have d8 : Hid (doneB ownF.toks sEnd = true) := ⟨own_d8⟩
      generalize sAt 7 = s7 at hM hr7 hr8 l7 i7 d7
      generalize sEnd = s8 at hr7 l8 i8 d8
      go_wp2_with (first
        | (go_at_call 7; clear F1; refine (hM.out.done d7.out).mono ?_; rintro _ w6 ⟨rfl, hM3, hb3⟩; replace hM : Hid _ := ⟨hM3⟩; replace hB : Hid (Below w.heap.size w w6) := ⟨hB.out.trans (hb3.mono hB.out.size)⟩; clear hM3 hb3)
        | (go_at_call 9; clear F2; refine (hM.out.left l7.out).mono ?_; rintro _ w7 ⟨pp, cp, rfl, hs7, hM3, hb3⟩; replace hs7 : Hid _ := ⟨hs7⟩; replace hM : Hid _ := ⟨hM3⟩; replace hB : Hid (Below w.heap.size w w7) := ⟨hB.out.trans (hb3.mono hB.out.size)⟩; clear hM3 hb3)
        | (go_at_call 10; refine (sameInts_any [0] [0] pp (some ⟨w7.heap.size, 0, none⟩) cp 1 _ (hs7.out.below (bel1 _ _)) (NSl.mk1 _ 0) (by decide)).mono ?_; rintro _ w8 ⟨rfl, hb9⟩; replace hM : Hid _ := ⟨(hM.out.below (bel1 _ _)).below hb9⟩; replace hB : Hid (Below w.heap.size w w8) := ⟨(hB.out.trans ((bel1 _ _).mono hB.out.size)).trans (hb9.mono (hB.out.trans ((bel1 _ _).mono hB.out.size)).size)⟩; clear hb9 hs7)
        | (go_at_call 8; clear F3; refine (hM.out.inside i7.out).mono ?_; rintro _ w9 ⟨rfl, hM3, hb3⟩; replace hM : Hid _ := ⟨hM3⟩; replace hB : Hid (Below w.heap.size w w9) := ⟨hB.out.trans (hb3.mono hB.out.size)⟩; clear hM3 hb3)
        | (go_at_call 11; refine (hM.out.step own_chk hL.out ⟨3, ⟨#[100]⟩, .slice none 0 0, 0, ⟨#[]⟩⟩ hB.out.size (by simp) h0.out hn1.out hr8.out hr7.out).mono ?_; rintro _ wa ⟨rfl, hM3, hb3, -⟩; replace hM : Hid _ := ⟨hM3⟩; replace hB : Hid (Below w.heap.size w wa) := ⟨hB.out.trans hb3⟩; clear hM3 hb3)
        | (go_at_call 7; refine (hM.out.done d8.out).mono ?_; rintro _ wb ⟨rfl, hM3, hb3⟩; replace hM : Hid _ := ⟨hM3⟩; replace hB : Hid (Below w.heap.size w wb) := ⟨hB.out.trans (hb3.mono hB.out.size)⟩; clear hM3 hb3)
        | (go_at_call 8; refine (hM.out.inside i8.out).mono ?_; rintro _ wc ⟨rfl, hM3, hb3⟩; replace hM : Hid _ := ⟨hM3⟩; replace hB : Hid (Below w.heap.size w wc) := ⟨hB.out.trans (hb3.mono hB.out.size)⟩; clear hM3 hb3)
        | (go_at_call 9; refine (hM.out.left l8.out).mono ?_; rintro _ wd ⟨pp, cp, rfl, hs7, hM3, hb3⟩; replace hB : Hid (Below w.heap.size w wd) := ⟨hB.out.trans (hb3.mono hB.out.size)⟩; clear hM3 hb3 hs7))
      go_ret
      exact ⟨rfl, hB.out⟩
end Go.Proofs.YtepnmfgbflogkaaDoor
namespace Go.Proofs.YtepnmfgbflogkaaDoor
open Go.ChangeShapes Go.WideShapes Go.ChangeAt Go.RowKit Go.Shelf Go.Maps

theorem addrK (g o k : Nat) : (⟨g, o, none⟩ : Addr).add k = ⟨g, o + k, none⟩ := by unfold Addr.add; split <;> simp_all
abbrev zTk : Value := .agg #[.int .i64 0, .string ⟨#[]⟩, .int .i64 0, .int .i64 0, .int .i64 0, .int .i64 0, .int .i64 0, .int .i64 0, .int .i64 0, .int .u64 0, .int .u64 0, .int .u64 0, .slice none 0 0, .int .u64 0, .int .i64 0, .int .i64 0, .int .i64 0, .int .i64 0, .int .i64 0, .int .i64 0, .int .i64 0]
theorem infoTkO : (Tryd.prog.info? 42).map (fun i => (i.zero, i.size, i.bytes)) = some (some zTk, 21, 192) := by kernel_rfl
/-- An empty row, made anew. -/
theorem own_mt {w : World} {b g : Nat} {e : TypeId} (s : Nat) (hb : b ≤ g) (hg : w.heap[g]? = some (.cells #[] e)) : w.ownsRow b e s (.slice (some ⟨g, 0, none⟩) 0 0) 0 [] :=
  ⟨by simp, .inr ⟨g, 0, #[], rfl, hb, hg, Nat.le_refl _, Nat.zero_le _, by simp, by simp⟩⟩
/-- The cells of tokens in memory. -/
theorem tcells {w : World} {H : Nat} : ∀ (l : List Tk) (g o : Nat), TkRow w (some ⟨g, o, none⟩) H l → ∃ xs : List Value, xs.length = l.length * 21 ∧ (∀ u ∈ xs, u.oneCell' = true) ∧ (∀ j u, xs[j]? = some u → w.cell? ⟨g, o + j, none⟩ = some u) ∧
    ∀ i t, l[i]? = some t → ∃ pc cc, URow w pc H t.cst ∧ t.cst.length ≤ cc ∧ ∀ j, j < 21 → xs[i * 21 + j]? = (tkC t pc cc)[j]?
  | [], g, o, h => ⟨[], by simp, by simp, by simp, by simp⟩
  | t :: r, g, o, h => by
    obtain ⟨g0, o0, pc, cc, e, hg, hT, hU, hc⟩ := h.c 0 t rfl
    cases e
    have hr : TkRow w (some ⟨g, o + 21, none⟩) H r := ⟨fun i x hx => by
      obtain ⟨g1, o1, pc1, cc1, e1, q1, q2, q3, q4⟩ := h.c (i + 1) x hx
      cases e1
      refine ⟨g, o + 21, pc1, cc1, rfl, q1, ?_, q3, q4⟩
      have : o + 21 + i * 21 = o + (i + 1) * 21 := by omega
      rw [this]
      exact q2⟩
    obtain ⟨xs, h1, h2, h3, h4⟩ := tcells r g (o + 21) hr
    have hl : (tkC t pc cc).length = 21 := rfl
    refine ⟨tkC t pc cc ++ xs, by rw [List.length_append, hl, h1, List.length_cons]; omega, fun u hu => ?_, fun j u hu => ?_, fun i x hx => ?_⟩
    · rcases List.mem_append.1 hu with hu | hu
      · exact tkC_one t pc cc u hu
      · exact h2 u hu
    · by_cases hj : j < 21
      · rw [List.getElem?_append_left (by omega)] at hu
        have := tk_range hT j u hu
        simpa using this
      · rw [List.getElem?_append_right (by omega), hl] at hu
        have := h3 _ _ hu
        have e : o + 21 + (j - 21) = o + j := by omega
        rwa [e] at this
    · cases i with
      | zero =>
        cases hx
        refine ⟨pc, cc, hU, hc, fun j hj => ?_⟩
        rw [Nat.zero_mul, Nat.zero_add, List.getElem?_append_left (by omega)]
      | succ i =>
        obtain ⟨pc1, cc1, q1, q2, q3⟩ := h4 i x hx
        refine ⟨pc1, cc1, q1, q2, fun j hj => ?_⟩
        rw [List.getElem?_append_right (by omega), hl, ← q3 j hj]
        congr 1
        omega
/-- A list of tokens in a block of one's own; their words lie ahead of block H. -/
structure TOwn (w : World) (H b g cap : Nat) (l : List Tk) : Prop where
  c : ∀ i t, l[i]? = some t → ∃ pc cc, TkC w g (i * 21) t pc cc ∧ URow w pc H t.cst ∧ t.cst.length ≤ cc
  ge : b ≤ g
  lt : g < w.heap.size
  th : w.there g 0 (cap * 21)
  room : l.length ≤ cap
theorem TOwn.row {w : World} {H b g cap : Nat} {l : List Tk} (h : TOwn w H b g cap l) (hH : H ≤ w.heap.size) : TkRow w (some ⟨g, 0, none⟩) w.heap.size l := ⟨fun i t ht => by
  obtain ⟨pc, cc, h1, h2, h3⟩ := h.c i t ht
  exact ⟨g, 0, pc, cc, rfl, h.lt, by rw [Nat.zero_add]; exact h1, h2.mono hH, h3⟩⟩
theorem there_same {w w' : World} {g o n : Nat} (h : w.there g o n) (hb : w'.heap[g]? = w.heap[g]?) : w'.there g o n := fun j hj => by
  have := h j hj
  simp only [World.cell?, World.frozen?, hb] at this ⊢
  exact this
theorem TOwn.same {w w' : World} {H b g cap : Nat} {l : List Tk} (h : TOwn w H b g cap l) (hs : w.heap.size ≤ w'.heap.size) (hg : w'.heap[g]? = w.heap[g]?) (hH : ∀ k, k < H → w'.heap[k]? = w.heap[k]?) : TOwn w' H b g cap l :=
  ⟨fun i t ht => by
    obtain ⟨pc, cc, h1, h2, h3⟩ := h.c i t ht
    exact ⟨pc, cc, h1.same hg, h2.same hH, h3⟩, h.ge, Nat.lt_of_lt_of_le h.lt hs, there_same h.th hg, h.room⟩
theorem there_blk {w : World} {g n : Nat} {cur : Array Value} {ty : TypeId} (h : w.heap[g]? = some (.cells cur ty)) (hn : n ≤ cur.size) : w.there g 0 n := fun j hj => by
  rw [Nat.zero_add, cell_at h j]
  refine ⟨by simp; omega, ?_⟩
  simp only [World.frozen?, h]
  simp
/-- 'append([]api.Token{}, f.Tokens...)'. -/
theorem t_cp {w : World} {b g H : Nat} {pa : Option Addr} {ca : Nat} {l : List Tk} (hb : b ≤ g) (hg : w.heap[g]? = some (.cells #[] 42)) (hA : TkRow w pa H l) (hl : l.length * 192 ≤ 140737488351232) (hH : H ≤ b) :
    ∃ v' w', (∀ ty, (Builtin.append_ #[28, 28] ty #[.slice (some ⟨g, 0, none⟩) 0 0, .slice pa l.length ca]).run Tryd.prog w = .ok v' w') ∧ (∃ g' cap', v' = .slice (some ⟨g', 0, none⟩) l.length cap' ∧ TOwn w' H b g' cap' l) ∧ Below b w w' := by
  obtain ⟨i0, hi0, hz0⟩ := Option.map_eq_some_iff.1 infoTkO
  simp only [Prod.mk.injEq] at hz0
  have hO := own_mt (b := b) 21 hb hg
  have hgl := (Array.getElem?_eq_some_iff.1 hg).1
  cases pa with
  | none =>
    have h0 : l = [] := by
      cases l with
      | nil => rfl
      | cons a r =>
        obtain ⟨g, o, _, _, e, _⟩ := hA.c 0 a rfl
        cases e
    subst h0
    refine ⟨.slice (some ⟨g, 0, none⟩) 0 0, w, fun ty => ?_, ⟨g, 0, rfl, fun i t ht => (by cases ht), hb, hgl, fun j hj => by omega, Nat.le_refl _⟩, Below.refl _ _⟩
    have S := Src.ofNil (P := Tryd.prog) (size := i0.size) w Tryd.underlying28 ca
    have hln : ∀ w' : World, (Builtin.lenOf (.slice none 0 ca)).run Tryd.prog w' = .ok 0 w' := S.len
    have hcl : (Builtin.firstCells i0.size 0 (.slice none 0 ca)).run Tryd.prog w = .ok #[] w := S.cells
    simp [Builtin.append_, run_underlying Tryd.underlying28, sizeOf, typeInfo, hi0, hln, hcl, storeCells]
  | some ad =>
    by_cases hne : l = []
    · subst hne
      have hr := fun ty => run_append_own_at (P := Tryd.prog) w b 28 ty 42 i0 zTk 21 192 Tryd.underlying28 hi0 hz0.1 hz0.2.1 hz0.2.2 rfl (by decide) (.slice (some ⟨g, 0, none⟩) 0 0) 0 [] hO ad 0 ca [] rfl (fun j u hu => by cases hu) (fun u hu => by cases hu) (by decide) (by decide) (by omega)
      obtain ⟨v', w', h1, h2, h3, _, h5⟩ := hr 0
      have hb' : Below b w w' := ⟨h3.os, h3.tape, h3.output, h3.size, fun k hk => h3.block k (by omega) (by simp [Value.ownBlock]; omega)⟩
      refine ⟨v', w', fun ty => h1, ?_, hb'⟩
      rcases h2.2 with ⟨e, _⟩ | ⟨g', cap', cur, e, q1, q2, q3, q4, q5, q6⟩
      · subst e
        simp [Value.ownBlock] at h5
      · exact ⟨g', cap', e, fun i t ht => (by cases ht), q1, (Array.getElem?_eq_some_iff.1 q2).1, there_blk q2 (by omega), Nat.zero_le _⟩
    · obtain ⟨gA, oA, rfl⟩ : ∃ gA oA, ad = ⟨gA, oA, none⟩ := by
        cases l with
        | nil => exact absurd rfl hne
        | cons a r =>
          obtain ⟨gA, oA, _, _, e, _⟩ := hA.c 0 a rfl
          cases e
          exact ⟨gA, oA, rfl⟩
      obtain ⟨xs, x1, x2, x3, x4⟩ := tcells l gA oA hA
      have hr := fun ty => run_append_own_at (P := Tryd.prog) w b 28 ty 42 i0 zTk 21 192 Tryd.underlying28 hi0 hz0.1 hz0.2.1 hz0.2.2 rfl (by decide) (.slice (some ⟨g, 0, none⟩) 0 0) 0 [] hO ⟨gA, oA, none⟩ l.length ca xs x1 (fun j u hu => by rw [addrK]; exact x3 j u hu) x2 (by simp only [maxLen]; omega) (by omega) (by omega)
      obtain ⟨v', w', h1, h2, h3, _, h5⟩ := hr 0
      have hb' : Below b w w' := ⟨h3.os, h3.tape, h3.output, h3.size, fun k hk => h3.block k (by omega) (by simp [Value.ownBlock]; omega)⟩
      refine ⟨v', w', fun ty => h1, ?_, hb'⟩
      rcases h2.2 with ⟨e, _⟩ | ⟨g', cap', cur, e, q1, q2, q3, q4, q5, q6⟩
      · subst e
        simp [Value.ownBlock] at h5
      · rw [Nat.zero_add] at e q6 q3
        have hgl' := (Array.getElem?_eq_some_iff.1 q2).1
        refine ⟨g', cap', e, fun i t ht => ?_, q1, hgl', there_blk q2 (by omega), by omega⟩
        obtain ⟨pc, cc, y1, y2, y3⟩ := x4 i t ht
        have hil := (List.getElem?_eq_some_iff.1 ht).1
        refine ⟨pc, cc, tkC_of fun j u hu => ?_, y1.below (hb'.mono hH), y2⟩
        have hj : j < 21 := (List.getElem?_eq_some_iff.1 hu).1
        have := (y3 j hj).trans hu
        rw [List.nil_append] at q6
        rw [← q6, List.getElem?_take, if_pos (by omega), Array.getElem?_toList] at this
        rw [cell_at q2]
        exact this
/-- 'append([]int{}, left...)'. -/
theorem n_cp {w : World} {b base g : Nat} {v : Value} {ns : List Nat} (hb : b ≤ g) (hg : w.heap[g]? = some (.cells #[] 3)) (hN : NRow w base v ns) (hl : ns.length ≤ 1000000) :
    ∃ v' w', (∀ ty, (Builtin.append_ #[47, 47] ty #[.slice (some ⟨g, 0, none⟩) 0 0, v]).run Tryd.prog w = .ok v' w') ∧ NRow w' b v' ns ∧ Below b w w' := by
  obtain ⟨i0, hi0, hz0⟩ := Option.map_eq_some_iff.1 infoInt
  simp only [Prod.mk.injEq] at hz0
  have hO := own_mt (b := b) 1 hb hg
  have hgl := (Array.getElem?_eq_some_iff.1 hg).1
  obtain ⟨pp, cp, rfl, hs⟩ := hN.shape
  cases pp with
  | none =>
    have h0 : ns = [] := by
      cases ns with
      | nil => rfl
      | cons a r =>
        obtain ⟨g, e, _⟩ := hs 0 a rfl
        cases e
    subst h0
    refine ⟨.slice (some ⟨g, 0, none⟩) 0 0, w, fun ty => ?_, hO, Below.refl _ _⟩
    have S := Src.ofNil (P := Tryd.prog) (size := i0.size) w Tryd.underlying47 cp
    have hln : ∀ w' : World, (Builtin.lenOf (.slice none 0 cp)).run Tryd.prog w' = .ok 0 w' := S.len
    have hcl : (Builtin.firstCells i0.size 0 (.slice none 0 cp)).run Tryd.prog w = .ok #[] w := S.cells
    simp [Builtin.append_, run_underlying Tryd.underlying47, sizeOf, typeInfo, hi0, hln, hcl, storeCells]
  | some ad =>
    have hc : ∀ j u, (ns.map cI)[j]? = some u → w.cell? (ad.add j) = some u := fun j u hu => by
      rw [List.getElem?_map] at hu
      cases hx : ns[j]? with
      | none => rw [hx] at hu; cases hu
      | some x =>
        rw [hx] at hu
        cases hu
        obtain ⟨g1, e1, _, hc⟩ := hs j x hx
        cases e1
        rw [addrK, Nat.zero_add]
        exact hc
    have hr := fun ty => run_append_own_at (P := Tryd.prog) w b 47 ty 3 i0 (.int .i64 0) 1 8 Tryd.underlying47 hi0 hz0.1 hz0.2.1 hz0.2.2 rfl (by decide) (.slice (some ⟨g, 0, none⟩) 0 0) 0 [] hO ad ns.length cp (ns.map cI) (by simp) hc (fun u hu => by obtain ⟨x, _, rfl⟩ := List.mem_map.1 hu; rfl) (by simp only [maxLen]; omega) (by omega) (by omega)
    obtain ⟨v', w', h1, h2, h3, _, h5⟩ := hr 0
    refine ⟨v', w', fun ty => h1, ?_, ⟨h3.os, h3.tape, h3.output, h3.size, fun k hk => h3.block k (by omega) (by simp [Value.ownBlock]; omega)⟩⟩
    unfold NRow
    simpa using h2
theorem own_cutP {w : World} {base : Nat} {e : TypeId} {size g n m cap : Nat} {xs ys : List Value} (h : w.ownsRow base e size (.slice (some ⟨g, 0, none⟩) (n + m) cap) (n + m) (xs ++ ys)) (hl : xs.length = n * size) : w.ownsRow base e size (.slice (some ⟨g, 0, none⟩) n cap) n xs := by
  refine ⟨hl, ?_⟩
  rcases h.2 with ⟨e0, _⟩ | ⟨g', cap', cur, e1, h1, h2, h3, h4, h5, h6⟩
  · cases e0
  · cases e1
    refine .inr ⟨g, cap, cur, rfl, h1, h2, by omega, h4, h5, ?_⟩
    have : cur.toList.take (n * size) = (cur.toList.take ((n + m) * size)).take (n * size) := by
      rw [List.take_take, Nat.min_eq_left (Nat.mul_le_mul_right _ (by omega))]
    rw [this, h6, List.take_append_of_le_length (by omega), List.take_of_length_le (by omega)]
/-- 'append(left, 5)': left is as it was. -/
theorem n_ap5 {W : World} {base : Nat} {v : Value} {ns : List Nat} (k : Nat) (h : NRow W base v ns) (hl : ns.length ≤ 1000000) (hb : base ≤ W.heap.size) :
    ∃ v' w', (∀ ty, (Builtin.append_ #[47, 47] ty #[v, .slice (some ⟨W.heap.size, 0, none⟩) 1 1]).run Tryd.prog (W.alloc (.cells #[.int .i64 (k : Int)] 3)) = .ok v' w') ∧ NRow w' base v' (ns ++ [k]) ∧ NRow w' base v ns ∧ Below base W w' ∧ ∀ j, j < W.heap.size → v.ownBlock ≠ some j → w'.heap[j]? = W.heap[j]? := by
  obtain ⟨i0, hi0, hz0⟩ := Option.map_eq_some_iff.1 infoInt
  simp only [Prod.mk.injEq] at hz0
  have hB := nbel W (.cells #[.int .i64 (k : Int)] 3)
  have hO : (W.alloc (.cells #[.int .i64 (k : Int)] 3)).ownsRow base 3 1 v ns.length (ns.map cI) := own_keep h hB
  have hG : (W.alloc (.cells #[.int .i64 (k : Int)] 3)).heap[W.heap.size]? = some (.cells #[.int .i64 (k : Int)] 3) := thnK W _
  have hN : ∀ (j : Nat) (u : Value), [Value.int .i64 (k : Int)][j]? = some u → (W.alloc (.cells #[.int .i64 (k : Int)] 3)).cell? ((⟨W.heap.size, 0, none⟩ : Addr).add j) = some u := World.news_of_block hG
  have hs : (W.alloc (.cells #[.int .i64 (k : Int)] 3)).heap.size = W.heap.size + 1 := World.size_alloc _ _
  generalize W.alloc (.cells #[.int .i64 (k : Int)] 3) = W1 at hB hO hG hN hs
  have h1' : ∀ u ∈ [Value.int .i64 (k : Int)], u.oneCell' = true := fun u hu => by rw [List.mem_singleton.1 hu]; rfl
  have hr := run_append_own_at (P := Tryd.prog) W1 base 47 0 3 i0 _ 1 8 Tryd.underlying47 hi0 hz0.1 hz0.2.1 hz0.2.2 rfl (by decide) v ns.length (ns.map cI) hO ⟨W.heap.size, 0, none⟩ 1 1 [.int .i64 (k : Int)] rfl hN h1' (by simp only [maxLen]; omega) (by omega) (by omega)
  obtain ⟨v', w', q1, q2, q3, _, q5⟩ := hr
  refine ⟨v', w', fun _ => q1, ?_, ?_, grown_below hB q3 hb (fun j hj => (h.lt j hj).1), fun j hj hn => (q3.block j (by omega) (fun e => hn e.symm)).trans (hB.block j hj)⟩
  · unfold NRow
    rw [List.length_append, List.map_append]
    exact q2
  · rcases hO.2 with ⟨rfl, h0⟩ | ⟨g, cap, cur, e1, hbg, hg, hnc, hmx, hs', hx⟩
    · exact ⟨hO.1, .inl ⟨rfl, h0⟩⟩
    · subst e1
      have hS : Src Tryd.prog i0.size 47 (.slice (some ⟨W.heap.size, 0, none⟩) 1 1) 1 [Value.int .i64 (k : Int)] W1 := by
        rw [hz0.2.1]
        exact Src.ofSlice (P := Tryd.prog) W1 Tryd.underlying47 ⟨W.heap.size, 0, none⟩ 1 1 _ rfl hN h1'
      by_cases hroom : ns.length + 1 ≤ cap
      · have hr2 := run_append_room_src (P := Tryd.prog) W1 47 47 0 3 i0 Tryd.underlying47 hi0 g 0 ns.length cap (.slice (some ⟨W.heap.size, 0, none⟩) 1 1) 1 _ hS hroom
          (fun j hj => by
            rw [hz0.2.1, cell_at hg]
            simp at hj
            rw [Array.getElem?_eq_getElem (by omega)]
            rfl)
          (fun j hj => by
            simp only [World.frozen?, hg]
            simp)
        rw [hr2] at q1
        injection q1 with e1 e2
        rw [← e1] at q2
        exact own_cutP q2 (by simp)
      · have hold : (Builtin.firstCells i0.size ns.length (.slice (some ⟨g, 0, none⟩) ns.length cap)).run Tryd.prog W1.drew = .ok (ns.map cI).toArray W1.drew := by
          refine run_firstCells_some W1.drew i0.size ns.length ⟨g, 0, none⟩ ns.length cap (ns.map cI) (by rw [hz0.2.1]; exact hO.1) (fun j u hu => ?_)
          have := World.ownsRow.cells hO (g := g) rfl j u hu
          simpa using this
        have hr2 := run_append_grow_src (P := Tryd.prog) W1 47 47 0 3 i0 _ Tryd.underlying47 hi0 hz0.1 (some ⟨g, 0, none⟩) ns.length cap (ns.map cI) hold (.slice (some ⟨W.heap.size, 0, none⟩) 1 1) 1 _ hS (by omega) (by omega) (by rw [hz0.2.2]; exact growslice_fits (by omega) (by omega))
        rw [hr2] at q1
        injection q1 with e1 e2
        refine own_keepP hO fun k hk => ?_
        rw [← e2]
        exact Below.heap_alloc W1.drew _ k (hO.lt k hk).2
end Go.Proofs.YtepnmfgbflogkaaDoor
namespace Go.Proofs.YtepnmfgbflogkaaDoor
open Go.ChangeShapes Go.WideShapes Go.ChangeAt Go.RowKit Go.Shelf Go.Maps

/-- Two machines: their blocks lie from b on, none of them from lo up to hi; none is of both. -/
def K2 (f : Fm) (b lo hi : Nat) (w : World) (a : Nat) (s : Ms) (a' : Nat) (s' : Ms) : Prop := ∃ U V, Mc f w a s U ∧ Mc f w a' s' V ∧ (∀ k, U k → ¬ V k) ∧ ∀ k, U k ∨ V k → b ≤ k ∧ ¬ (lo ≤ k ∧ k < hi)
/-- What a step of one of them leaves. -/
structure Kf (b lo hi : Nat) (w w' : World) : Prop where
  b : Below b w w'
  r : ∀ k, lo ≤ k → k < hi → w'.heap[k]? = w.heap[k]?
theorem Kf.trans {b lo hi : Nat} {u v w : World} (h : Kf b lo hi u v) (h' : Kf b lo hi v w) : Kf b lo hi u w := ⟨h.b.trans h'.b, fun k h1 h2 => (h'.r k h1 h2).trans (h.r k h1 h2)⟩
theorem Kf.of_below {b lo hi : Nat} {w w' : World} (h : Below w.heap.size w w') (hb : b ≤ w.heap.size) (hh : hi ≤ w.heap.size) : Kf b lo hi w w' := ⟨h.mono hb, fun k _ h2 => h.block k (by omega)⟩
theorem K2.below {f : Fm} {b lo hi : Nat} {w w' : World} {a a' : Nat} {s s' : Ms} (h : K2 f b lo hi w a s a' s') (hb : Below w.heap.size w w') : K2 f b lo hi w' a s a' s' := by
  obtain ⟨U, V, h1, h2, h3, h4⟩ := h
  exact ⟨U, V, h1.below hb, h2.below hb, h3, h4⟩
/-- What came since w is none of theirs. -/
theorem K2.mark {f : Fm} {b lo hi : Nat} {w w' : World} {a a' : Nat} {s s' : Ms} (h : K2 f b lo hi w a s a' s') (hb : Below w.heap.size w w') (hi' : Nat) : K2 f b w.heap.size hi' w' a s a' s' := by
  obtain ⟨U, V, h1, h2, h3, h4⟩ := h
  refine ⟨U, V, h1.below hb, h2.below hb, h3, fun k hk => ⟨(h4 k hk).1, fun e => ?_⟩⟩
  rcases hk with hk | hk
  · have := h1.lt k hk; omega
  · have := h2.lt k hk; omega
theorem K2.loose {f : Fm} {b lo hi : Nat} {w : World} {a a' : Nat} {s s' : Ms} (h : K2 f b lo hi w a s a' s') : K2 f b 0 0 w a s a' s' := by
  obtain ⟨U, V, h1, h2, h3, h4⟩ := h
  exact ⟨U, V, h1, h2, h3, fun k hk => ⟨(h4 k hk).1, by omega⟩⟩
theorem K2.ok {f : Fm} {b lo hi : Nat} {w : World} {a a' : Nat} {s s' : Ms} (h : K2 f b lo hi w a s a' s') : MsOk f.toks s := by
  obtain ⟨U, V, h1, -⟩ := h
  exact h1.ok
theorem K2.doneA {f : Fm} {b lo hi : Nat} {w : World} {a a' : Nat} {s s' : Ms} (h : K2 f b lo hi w a s a' s') : Calls Tryd.prog 7 #[.pointer (some ⟨a, 0, none⟩)] w fun r w' => r = .returned (.bool (doneB f.toks s)) ∧ Below w.heap.size w w' := by
  obtain ⟨U, V, h1, -⟩ := h
  exact Done_mc h1
theorem K2.doneB {f : Fm} {b lo hi : Nat} {w : World} {a a' : Nat} {s s' : Ms} (h : K2 f b lo hi w a s a' s') : Calls Tryd.prog 7 #[.pointer (some ⟨a', 0, none⟩)] w fun r w' => r = .returned (.bool (doneB f.toks s')) ∧ Below w.heap.size w w' := by
  obtain ⟨U, V, -, h1, -⟩ := h
  exact Done_mc h1
theorem K2.insA {f : Fm} {b lo hi : Nat} {w : World} {a a' : Nat} {s s' : Ms} (h : K2 f b lo hi w a s a' s') : Calls Tryd.prog 8 #[.pointer (some ⟨a, 0, none⟩)] w fun r w' => r = .returned (.int .i64 (insZ s : Int)) ∧ Below w.heap.size w w' := by
  obtain ⟨U, V, h1, -⟩ := h
  exact Inside_mc h1
theorem K2.insB {f : Fm} {b lo hi : Nat} {w : World} {a a' : Nat} {s s' : Ms} (h : K2 f b lo hi w a s a' s') : Calls Tryd.prog 8 #[.pointer (some ⟨a', 0, none⟩)] w fun r w' => r = .returned (.int .i64 (insZ s' : Int)) ∧ Below w.heap.size w w' := by
  obtain ⟨U, V, -, h1, -⟩ := h
  exact Inside_mc h1
theorem K2.leftA {f : Fm} {b lo hi : Nat} {w : World} {a a' : Nat} {s s' : Ms} (h : K2 f b lo hi w a s a' s') : Calls Tryd.prog 9 #[.pointer (some ⟨a, 0, none⟩)] w fun r w' => ∃ pp cp, r = .returned (.slice pp (lfZ s).length cp) ∧ NRow w' w.heap.size (.slice pp (lfZ s).length cp) (lfZ s) ∧ Below w.heap.size w w' := by
  obtain ⟨U, V, h1, -⟩ := h
  refine (Left_mc h1).mono ?_
  rintro r w' ⟨v, e, hN, hb⟩
  obtain ⟨pp, cp, rfl, -⟩ := hN.sl
  exact ⟨pp, cp, e, hN, hb⟩
theorem K2.leftB {f : Fm} {b lo hi : Nat} {w : World} {a a' : Nat} {s s' : Ms} (h : K2 f b lo hi w a s a' s') : Calls Tryd.prog 9 #[.pointer (some ⟨a', 0, none⟩)] w fun r w' => ∃ pp cp, r = .returned (.slice pp (lfZ s').length cp) ∧ NRow w' w.heap.size (.slice pp (lfZ s').length cp) (lfZ s') ∧ Below w.heap.size w w' := by
  obtain ⟨U, V, -, h1, -⟩ := h
  refine (Left_mc h1).mono ?_
  rintro r w' ⟨v, e, hN, hb⟩
  obtain ⟨pp, cp, rfl, -⟩ := hN.sl
  exact ⟨pp, cp, e, hN, hb⟩
theorem NRow.nsl {W : World} {base : Nat} {pp : Option Addr} {cp : Nat} {ns : List Nat} (h : NRow W base (.slice pp ns.length cp) ns) : NSl W pp ns := by
  obtain ⟨pp', cp', e, h2⟩ := h.sl
  cases e
  exact h2
theorem K2.swap {f : Fm} {b lo hi : Nat} {w : World} {a a' : Nat} {s s' : Ms} (h : K2 f b lo hi w a s a' s') : K2 f b lo hi w a' s' a s := by
  obtain ⟨U, V, h1, h2, h3, h4⟩ := h
  exact ⟨V, U, h2, h1, fun k hv hu => h3 k hu hv, fun k hk => h4 k hk.symm⟩
theorem K2.stepA {f : Fm} (hz : chkZ f = none) (hl : f.toks.length ≤ 733007751850) {b lo hi : Nat} {w : World} {a a' : Nat} {s s' : Ms} (c : Cl) (h : K2 f b lo hi w a s a' s') (hb : b ≤ w.heap.size) (hh : hi ≤ w.heap.size) (hco : i64ok c.cnt) (hnm : c.nm.size ≤ maxLen) :
    Calls Tryd.prog 11 #[.pointer (some ⟨a, 0, none⟩), caV c] w fun r w' => r = .returned (.int .i64 (stepZ f.toks s c.k c.cnt c.nm).1) ∧ K2 f b lo hi w' a (stepZ f.toks s c.k c.cnt c.nm).2 a' s' ∧ Kf b lo hi w w' := by
  obtain ⟨U, V, h1, h2, h3, h4⟩ := h
  refine (Step_mc f hz hl a s U c w h1 hco hnm).mono ?_
  rintro r w' ⟨e, hm, hf⟩
  refine ⟨e, ⟨grw U w w', V, hm, h2.frm hf fun k hv hu => h3 k hu hv, fun k hk hv => ?_, fun k hk => ?_⟩, hf.below (fun k hk => (h4 k (.inl hk)).1) hb, fun k e1 e2 => hf.block k (by omega) fun hU => (h4 k (.inl hU)).2 ⟨e1, e2⟩⟩
  · rcases hk with hk | hk
    · exact h3 k hk hv
    · have := h2.lt k hv; omega
  · rcases hk with (hk | hk) | hk
    · exact h4 k (.inl hk)
    · exact ⟨Nat.le_trans hb hk.1, fun e => by omega⟩
    · exact h4 k (.inr hk)
theorem K2.stepB {f : Fm} (hz : chkZ f = none) (hl : f.toks.length ≤ 733007751850) {b lo hi : Nat} {w : World} {a a' : Nat} {s s' : Ms} (c : Cl) (h : K2 f b lo hi w a s a' s') (hb : b ≤ w.heap.size) (hh : hi ≤ w.heap.size) (hco : i64ok c.cnt) (hnm : c.nm.size ≤ maxLen) :
    Calls Tryd.prog 11 #[.pointer (some ⟨a', 0, none⟩), caV c] w fun r w' => r = .returned (.int .i64 (stepZ f.toks s' c.k c.cnt c.nm).1) ∧ K2 f b lo hi w' a s a' (stepZ f.toks s' c.k c.cnt c.nm).2 ∧ Kf b lo hi w w' :=
  (h.swap.stepA hz hl c hb hh hco hnm).mono fun _ _ ⟨e, h1, h2⟩ => ⟨e, h1.swap, h2⟩
/-- Calls as they are handed in. -/
structure CRow (w : World) (pq : Option Addr) (H : Nat) (cs : List Cl) : Prop where
  c : ∀ (i : Nat) (c : Cl), cs[i]? = some c → ∃ g o, pq = some ⟨g, o, none⟩ ∧ g < H ∧ w.cell? ⟨g, o + i * 5, none⟩ = some (.int .i64 c.k) ∧ w.cell? ⟨g, o + i * 5 + 1, none⟩ = some (.string c.nm) ∧ w.cell? ⟨g, o + i * 5 + 2, none⟩ = some c.ws ∧ w.cell? ⟨g, o + i * 5 + 3, none⟩ = some (.int .i64 c.cnt) ∧ w.cell? ⟨g, o + i * 5 + 4, none⟩ = some (.string c.tx)
  ok : ∀ c ∈ cs, i64ok c.cnt ∧ c.nm.size ≤ maxLen ∧ ∃ p n m, c.ws = .slice p n m
theorem CRow.below {w w' : World} {pq : Option Addr} {H : Nat} {cs : List Cl} (h : CRow w pq H cs) (hb : Below H w w') : CRow w' pq H cs :=
  ⟨fun i c hi => by
    obtain ⟨g, o, e, hg, h0, h1, h2, h3, h4⟩ := h.c i c hi
    exact ⟨g, o, e, hg, (hb.cell (p := ⟨g, _, none⟩) hg).trans h0, (hb.cell (p := ⟨g, _, none⟩) hg).trans h1, (hb.cell (p := ⟨g, _, none⟩) hg).trans h2, (hb.cell (p := ⟨g, _, none⟩) hg).trans h3, (hb.cell (p := ⟨g, _, none⟩) hg).trans h4⟩, h.ok⟩
/-- A place of a row of one's own is written. -/
theorem NRow.set {W : World} {base g cap : Nat} {ns : List Nat} (h : NRow W base (.slice (some ⟨g, 0, none⟩) ns.length cap) ns) (i x : Nat) (hi : i < ns.length) : NRow (W.setCell ⟨g, i, none⟩ (.int .i64 (x : Int))) base (.slice (some ⟨g, 0, none⟩) (ns.set i x).length cap) (ns.set i x) ∧ W.cell? ⟨g, i, none⟩ = some (.int .i64 (ns[i] : Int)) ∧ W.frozen? ⟨g, i, none⟩ = false ∧ base ≤ g ∧ g < W.heap.size := by
  rcases h.2 with ⟨e0, _⟩ | ⟨g', cap', cur, e1, h1, h2, h3, h4, h5, h6⟩
  · cases e0
  · cases e1
    have hlt := (Array.getElem?_eq_some_iff.1 h2).1
    refine ⟨⟨by simp, .inr ⟨g, cap, cur.setIfInBounds i (.int .i64 (x : Int)), rfl, h1, cellSet h2 i _, by simpa using h3, h4, by simpa using h5, ?_⟩⟩, ?_, ?_, h1, hlt⟩
    · rw [Array.toList_setIfInBounds, List.take_set, List.length_set, h6, List.map_set]
      rfl
    · have e : (ns.map cI)[i]? = some (.int .i64 (ns[i] : Int)) := by rw [List.getElem?_map, List.getElem?_eq_getElem hi]; rfl
      rw [← h6, List.getElem?_take, if_pos (by omega), Array.getElem?_toList] at e
      rw [cell_at h2]
      exact e
    · simp only [World.frozen?, h2]
      simp
/-- The first k written over. -/
def ovr (ns : List Nat) (k : Nat) : List Nat := (List.range k).map (1000 + ·) ++ ns.drop k
theorem ovr_zero (ns : List Nat) : ovr ns 0 = ns := by simp [ovr]
theorem ovr_length (ns : List Nat) (k : Nat) (hk : k ≤ ns.length) : (ovr ns k).length = ns.length := by
  simp only [ovr, List.length_append, List.length_map, List.length_range, List.length_drop]
  omega
theorem ovr_succ (ns : List Nat) (k : Nat) (hk : k < ns.length) : (ovr ns k).set k (1000 + k) = ovr ns (k + 1) := by
  unfold ovr
  rw [List.set_append_right _ _ (by simp), List.range_succ, List.map_append, List.append_assoc, List.length_map, List.length_range, Nat.sub_self]
  congr 1
  rw [List.drop_eq_getElem_cons hk]
  rfl
theorem ovr_get (ns : List Nat) (k : Nat) (hk : k < ns.length) : (ovr ns ns.length)[k]? = some (1000 + k) := by
  unfold ovr
  rw [List.getElem?_append_left (by simpa using hk), List.getElem?_map, List.getElem?_range hk]
  rfl
end Go.Proofs.YtepnmfgbflogkaaDoor

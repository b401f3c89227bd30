/- ICi, IDk, IYm, IYa, IYb. -/
import Derived.Test.YtjjhfiddebmgcaaGreatDoorG27
import Derived.Test.YtjjhfiddebmgcaaGreatDoorG03
import Derived.Test.YtjjhfiddebmgcaaGreatDoorG05
import Derived.Test.YtjjhfiddebmgcaaGreatDoorG01
namespace Go.Proofs.YtjjhfiddebmgcaaGreatDoor
open Go.ChangeShapes Go.WideShapes Go.ChangeAt Go.RowKit Go.Shelf Go.Maps

set_option maxRecDepth 20000 in
set_option maxHeartbeats 8000000 in
theorem check_none (f : Fm) (pp : Option Addr) (cp : Nat) (w : World) (hf : f.toks = []) (kt : KT w) :
    Calls Tryz.prog 47 #[fmV f pp cp] w fun r w' => r = .returned (fltV (chkZ f)) ∧ Below w.heap.size w w' := by
  replace hf : Hid _ := ⟨hf⟩
  have hX : ((w.alloc (fmO f pp cp)).alloc (.cells #[.int .i64 0, .int .i64 0] 76)).heap[w.heap.size]? = some (fmO f pp cp) := by
    show ((w.heap.push _).push _)[w.heap.size]? = _
    rw [Array.getElem?_push, if_neg (by simp), Array.getElem?_push, if_pos rfl]
  have hY : ((w.alloc (fmO f pp cp)).alloc (.cells #[.int .i64 0, .int .i64 0] 76)).heap[w.heap.size + 1]? = some (.cells #[.int .i64 0, .int .i64 0] 76) := by
    show ((w.heap.push _).push _)[w.heap.size + 1]? = _
    rw [Array.getElem?_push, if_pos (by simp)]
  have HB : Below w.heap.size w ((w.alloc (fmO f pp cp)).alloc (.cells #[.int .i64 0, .int .i64 0] 76)) := (bel1 w _).alloc (by simp) _
  have HS : ((w.alloc (fmO f pp cp)).alloc (.cells #[.int .i64 0, .int .i64 0] 76)).heap.size = w.heap.size + 2 := by simp
  generalize hW : (w.alloc (fmO f pp cp)).alloc (.cells #[.int .i64 0, .int .i64 0] 76) = W at hX hY HB HS
  simp only [fmO] at hW
  have hF : FmC W w.heap.size 0 f pp cp := ⟨cell_at hX 0, cell_at hX 1, cell_at hX 2, cell_at hX 3, cell_at hX 4, cell_at hX 5, cell_at hX 6, cell_at hX 7, cell_at hX 8, cell_at hX 9, cell_at hX 10, cell_at hX 11, cell_at hX 12⟩
  have cH := isHeaded_any f w.heap.size 0 pp cp W (kt.up HB) (by omega) hF
  replace cH : Hid _ := ⟨cH⟩
  replace hX : Hid _ := ⟨hX⟩
  replace hY : Hid _ := ⟨hY⟩
  replace hF : Hid _ := ⟨hF⟩
  replace HB : Hid _ := ⟨HB⟩
  cases hhd : headB f with
  | false =>
    have hz : chkZ f = some (-1) := by unfold chkZ; rw [hhd]; rfl
    rw [hz]
    rw [hhd] at cH
    clear hhd hz
    go_enter Tryz.func47, Tryz.ntmps47
    go_wp2_with (go_at_call 54; refine cH.out.mono ?_; rintro _ w1 ⟨rfl, hb⟩; have y1 := (hb.block (w.heap.size + 1) (by omega)).trans hY.out; have y10 := cell_at y1 0; have y11 := cell_at y1 1; have yf : ∀ k, w1.frozen? ⟨w.heap.size + 1, k, none⟩ = false := (fun k => by simp [World.frozen?, y1]); replace y1 : Hid _ := ⟨y1⟩; replace hb : Hid _ := ⟨hb⟩)
    refine bodyPost_ret (results_cell_row rfl _ _ (w.heap.size + 1) 76 #[.int .i64 121, .int .i64 (-1)] (0, 0) _ rfl (flt_set _ _ y1.out) Tryz.underlying76 rfl infoFt) rfl ⟨rfl, ?_⟩
    exact ((HB.out.trans (hb.out.mono HB.out.size)).setCell (p := ⟨w.heap.size + 1, 0, none⟩) (by show w.heap.size ≤ w.heap.size + 1; omega) _).setCell (p := ⟨w.heap.size + 1, 1, none⟩) (by show w.heap.size ≤ w.heap.size + 1; omega) _
  | true =>
    have hz : chkZ f = runZ f f.toks 0 ⟨[], []⟩ := by unfold chkZ; rw [hhd]; rfl
    rw [hz]
    rw [hhd] at cH
    clear hhd hz
    have hZ : runZ f f.toks 0 ⟨[], []⟩ = some 0 := by rw [hf.out, runZ, if_pos (.inl rfl)]; rfl
    rw [hZ]
    clear hZ
    replace kt : Hid _ := ⟨kt⟩
    go_enter Tryz.func47, Tryz.ntmps47
    go_wp2_with (first
      | (go_at_call 54; refine cH.out.mono ?_; rintro _ w1 ⟨rfl, hb⟩; replace hb : Hid _ := ⟨hb⟩)
      | (go_at_call 55; refine (newChecker_any w.heap.size w1).mono ?_; rintro _ w2 ⟨rfl, hck, hrl, hm1, hm2, hm3, hs2, hb2⟩; replace hck : Hid _ := ⟨hck⟩; replace hrl : Hid _ := ⟨hrl⟩; replace hm1 : Hid _ := ⟨hm1⟩; replace hm2 : Hid _ := ⟨hm2⟩; replace hm3 : Hid _ := ⟨hm3⟩; replace hs2 : Hid _ := ⟨hs2⟩; replace hb2 : Hid _ := ⟨hb2⟩))
    have hw1 := hb.out.size
    have hb02 : Below w.heap.size w w2 := HB.out.trans ((hb.out.trans (hb2.out.mono hw1)).mono HB.out.size)
    have hF2 := (hF.out.below (by omega) hb.out).below (Nat.lt_of_lt_of_le (by omega : w.heap.size < W.heap.size) hw1) hb2.out
    have hY2 := (hb2.out.block (w.heap.size + 1) (by omega)).trans ((hb.out.block (w.heap.size + 1) (by omega)).trans hY.out)
    have k2 := hck.out.ck.c2
    have k23 := hck.out.ck.c23
    have m12 : w2.cell? ⟨w.heap.size, 12, none⟩ = some (.slice pp 0 cp) := by have := hF2.c12; rw [hf.out] at this; exact this
    have hY0 := cell_at hY2 0
    have hY1 := cell_at hY2 1
    have yf : ∀ k, w2.frozen? ⟨w.heap.size + 1, k, none⟩ = false := fun k => by simp [World.frozen?, hY2]
    replace hF2 : Hid _ := ⟨hF2⟩
    replace hY2 : Hid _ := ⟨hY2⟩
    replace hb02 : Hid _ := ⟨hb02⟩
    go_loopw [4] (fun u wr => wr = w2 ∧ u = u) (fun _ _ => 0)
    case atStart => exact ⟨rfl, rfl⟩
    case round =>
      obtain ⟨hwr, -⟩ := hrel
      obtain rfl : w2 = wr := hwr.symm
      go_wp2_with fail
      go_quiet (fail)
      go_wp2_with fail
      refine bodyPost_ret (results_cell_row rfl _ _ (w.heap.size + 1) 76 #[.int .i64 121, .int .i64 0] (0, 0) _ rfl (flt_set (w := w2.drewN nq) _ _ hY2.out) Tryz.underlying76 rfl infoFt) rfl ⟨rfl, ?_⟩
      exact tdr ((hb02.out.setCell (p := ⟨w.heap.size + 1, 0, none⟩) (by show w.heap.size ≤ w.heap.size + 1; omega) _).setCell (p := ⟨w.heap.size + 1, 1, none⟩) (by show w.heap.size ≤ w.heap.size + 1; omega) _)
/-- check, of any form. -/
theorem check_any (f : Fm) (pp : Option Addr) (cp : Nat) (w : World) (tl : TkL w pp w.heap.size f.toks) (kt : KT w) (mt : MT w) :
    Calls Tryz.prog 47 #[fmV f pp cp] w fun r w' => r = .returned (fltV (chkZ f)) ∧ Below w.heap.size w w' := by
  cases hf : f.toks with
  | nil => exact check_none f pp cp w hf kt
  | cons t r =>
    obtain ⟨g, o, pc, cc, rfl, hg, _⟩ := tl.at (i := 0) (by rw [hf]; rfl)
    exact check_some f g o cp w tl hg kt mt
def errZ (z : Option Int) : Int := match z with
  | none => 0
  | some _ => 121
def atZ (z : Option Int) : Int := match z with
  | none => 0
  | some a => a
theorem flt_eq (z : Option Int) : fltV z = .agg #[.int .i64 (errZ z), .int .i64 (atZ z)] := by cases z <;> rfl
/-- Check, of any form. -/
theorem Check_any (f : Fm) (pp : Option Addr) (cp : Nat) (w : World) (tl : TkL w pp w.heap.size f.toks) (kt : KT w) (mt : MT w) :
    Calls Tryz.prog 39 #[fmV f pp cp] w fun r w' => r = .returned (.tuple #[.int .i64 (errZ (chkZ f)), .int .i64 (atZ (chkZ f))]) ∧ Below w.heap.size w w' := by
  have c : ∀ W, Below w.heap.size w W → Calls Tryz.prog 47 #[fmV f pp cp] W fun r w' => r = .returned (.agg #[.int .i64 (errZ (chkZ f)), .int .i64 (atZ (chkZ f))]) ∧ Below W.heap.size W w' := fun W hb => by
    have := check_any f pp cp W ((tl.below hb).mono hb.size) (kt.up hb) (mt.below mt.pos hb)
    rwa [flt_eq] at this
  replace c : Hid _ := ⟨c⟩
  clear tl kt mt
  generalize errZ (chkZ f) = e at c ⊢
  generalize atZ (chkZ f) = a at c ⊢
  go_enter Tryz.func39, Tryz.ntmps39
  go_wp2_with (go_at_call 47; refine (c.out _ (bel1 _ _)).mono ?_; rintro _ w1 ⟨rfl, hb⟩; replace hb : Hid _ := ⟨hb⟩)
  have v0 := cell_at (heap_al w1 (.cells #[.int .i64 e, .int .i64 a] 76)) 0
  have v1 := cell_at (heap_al w1 (.cells #[.int .i64 e, .int .i64 a] 76)) 1
  go_quiet (fail)
  go_wp2_with fail
  go_ret2
  exact ⟨rfl, tdr (((bel1 w _).trans (hb.out.mono (bel1 w _).size)).alloc (Nat.le_trans (bel1 w _).size hb.out.size) _)⟩
end Go.Proofs.YtjjhfiddebmgcaaGreatDoor
namespace Go.Proofs.YtjjhfiddebmgcaaGreatDoor

/-- What was met right inside what is open rises. -/
def Srt (o : List Sc) : Prop := ∀ x ∈ o, x.kids.Pairwise (· < ·)
theorem srt_step {f : Fm} {s : St} {i : Nat} {t : Tk} (H : Inv f i s) (hs : Srt s.open_) : Srt (nxt s i t).open_ := by
  obtain ⟨o, ids⟩ := s
  intro y hy
  unfold nxt at hy
  by_cases he : edO t.op = true
  · rw [if_pos he] at hy
    exact hs y (List.mem_of_mem_tail hy)
  · rw [if_neg he] at hy
    have key : ∀ y ∈ metL o i t, y.kids.Pairwise (· < ·) := fun y hy => by
      rcases o with _ | ⟨x, o⟩
      · cases hy
      · rcases List.mem_cons.1 hy with rfl | hy
        · show (x.kids ++ [i]).Pairwise (· < ·)
          refine List.pairwise_append.2 ⟨hs x (List.mem_cons_self ..), List.pairwise_singleton _ _, fun a ha b hb => ?_⟩
          rw [List.mem_singleton.1 hb]
          exact ((H.all x (List.mem_cons_self ..)).kid a ha).2
        · exact hs y (List.mem_cons_of_mem _ hy)
    have hy : y ∈ (if bgO t.op = true then scNew i t :: metL o i t else metL o i t) := hy
    split at hy
    · rcases List.mem_cons.1 hy with rfl | hy
      · exact List.Pairwise.nil
      · exact key y hy
    · exact key y hy
/-- What begins ahead of i is open, or it has ended. -/
def Cls (l : List Tk) (i : Nat) (o : List Sc) : Prop := ∀ b t, b < i → l[b]? = some t → bgO t.op = true → (∃ x ∈ o, x.at_ = b) ∨ ∃ (n : Nat) (ks : List Nat), t.pair = (n : Int) ∧ n < i ∧ Chn l (b + 1) ks n ∧ (∀ k ∈ ks, b < k ∧ k < n) ∧ ks.Pairwise (· < ·)
theorem cls_step {f : Fm} {s : St} {i : Nat} {t : Tk} (H : Inv f i s) (ht : f.toks[i]? = some t) (h : okZ f s i t = true) (hs : Srt s.open_) (hc : Cls f.toks i s.open_) : Cls f.toks (i + 1) (nxt s i t).open_ := by
  obtain ⟨o, ids⟩ := s
  intro b u hb hu hg
  have hb' : b < i ∨ b = i := by omega
  rcases o with _ | ⟨x, o⟩
  · obtain ⟨hi, ho, _⟩ := okZ_nil h
    rcases hb' with hb' | rfl
    · omega
    · have hbg : bgO t.op = true := by rw [ho]; rfl
      refine .inl ⟨scNew b t, ?_, rfl⟩
      unfold nxt
      rw [if_neg (by rw [bgO_end hbg]; decide), if_pos hbg]
      exact List.mem_cons_self ..
  · have hx := H.all x (List.mem_cons_self ..)
    have h : inOk f (x :: o) ids i x t = true := h
    cases he : edO t.op with
    | true =>
      obtain ⟨_, _, _, h1, h2⟩ := inOk_end h he
      have e : (nxt ⟨x :: o, ids⟩ i t).open_ = o := by unfold nxt; rw [if_pos he]; rfl
      rw [e]
      rcases hb' with hb' | rfl
      · rcases hc b u hb' hu hg with ⟨y, hy, hyb⟩ | ⟨n, ks, h3, h4, h5, h6⟩
        · rcases List.mem_cons.1 hy with rfl | hy
          · subst hyb
            have := hx.tk
            rw [hu] at this
            cases this
            exact .inr ⟨i, y.kids, h2, Nat.lt_succ_self _, H.nest.1, fun k hk => hx.kid k hk, hs y (List.mem_cons_self ..)⟩
          · exact .inl ⟨y, hy, hyb⟩
        · exact .inr ⟨n, ks, h3, by omega, h5, h6⟩
      · rw [ht] at hu
        cases hu
        rw [bgO_end hg] at he
        cases he
    | false =>
      have e : ∀ y ∈ metX x i t :: o, y ∈ (nxt ⟨x :: o, ids⟩ i t).open_ := fun y hy => by
        unfold nxt
        rw [if_neg (by rw [he]; decide)]
        show y ∈ (if bgO t.op = true then scNew i t :: metX x i t :: o else metX x i t :: o)
        split
        · exact List.mem_cons_of_mem _ hy
        · exact hy
      rcases hb' with hb' | rfl
      · rcases hc b u hb' hu hg with ⟨y, hy, hyb⟩ | ⟨n, ks, h3, h4, h5, h6⟩
        · rcases List.mem_cons.1 hy with rfl | hy
          · exact .inl ⟨metX y i t, e _ (List.mem_cons_self ..), hyb⟩
          · exact .inl ⟨y, e _ (List.mem_cons_of_mem _ hy), hyb⟩
        · exact .inr ⟨n, ks, h3, by omega, h5, h6⟩
      · rw [ht] at hu
        cases hu
        refine .inl ⟨scNew b t, ?_, rfl⟩
        unfold nxt
        rw [if_neg (by rw [he]; decide), if_pos hg]
        exact List.mem_cons_self ..
theorem run_cls {f : Fm} : ∀ (r : List Tk) (i : Nat) (s : St), r = f.toks.drop i → i ≤ f.toks.length → Inv f i s → Srt s.open_ → Cls f.toks i s.open_ → runZ f r i s = none → Cls f.toks f.toks.length [] := by
  intro r
  induction r with
  | nil =>
    intro i s hr hi H hs hc hz
    rw [runZ] at hz
    split at hz
    · cases hz
    · rename_i hn
      have h0 : s.open_ = [] := Decidable.byContradiction fun e => hn (.inr e)
      have : i = f.toks.length := by
        have := congrArg List.length hr
        rw [List.length_drop] at this
        simp at this
        omega
      subst this
      rwa [h0] at hc
  | cons t r ih =>
    intro i s hr hi H hs hc hz
    have hlt : i < f.toks.length := by
      have := congrArg List.length hr
      rw [List.length_drop] at this
      simp at this
      omega
    have ht : f.toks[i]? = some t := by
      have := congrArg (fun l => l[0]?) hr
      simp at this
      exact this.symm
    have hr' : r = f.toks.drop (i + 1) := by
      have := congrArg List.tail hr
      simpa using this
    rw [runZ] at hz
    split at hz
    · rename_i hok
      exact ih (i + 1) _ hr' hlt (inv_step H ht hok) (srt_step H hs) (cls_step H ht hok hs hc) hz
    · cases hz
/-- In a form that is one: what stands right inside what begins at b. -/
theorem valid_kids {f : Fm} (h : chkZ f = none) {b : Nat} {t : Tk} (ht : f.toks[b]? = some t) (hg : bgO t.op = true) : ∃ (n : Nat) (ks : List Nat), t.pair = (n : Int) ∧ n < f.toks.length ∧ Chn f.toks (b + 1) ks n ∧ (∀ k ∈ ks, b < k ∧ k < n) ∧ ks.Pairwise (· < ·) := by
  unfold chkZ at h
  split at h
  · have hc := run_cls f.toks 0 ⟨[], []⟩ rfl (Nat.zero_le _) (inv_zero f) (fun x hx => by cases hx) (fun b t hb => by omega) h
    rcases hc b t (List.getElem?_eq_some_iff.1 ht).1 ht hg with ⟨x, hx, _⟩ | h
    · cases hx
    · exact h
  · cases h
end Go.Proofs.YtjjhfiddebmgcaaGreatDoor
namespace Go.Proofs.YtjjhfiddebmgcaaGreatDoor

/-- Is it a form, and has it a token at a place? -/
def isAtB (f : Fm) (i : Int) : Bool := decide (0 ≤ i ∧ i < f.toks.length) && decide (chkZ f = none)
/-- What begins at a place, in a form that is one, and ends at n. -/
structure BegAt (f : Fm) (i : Int) (b n : Nat) (t : Tk) : Prop where
  z : chkZ f = none
  ei : i = (b : Int)
  et : f.toks[b]? = some t
  en : t.pair = (n : Int)
  nl : n < f.toks.length
  bn : b < n
/-- No token at the place i of a form is such. -/
structure NotAt (f : Fm) (i : Int) (p : Tk → Bool) : Prop where
  h : isAtB f i = true → ∃ (b : Nat) (t : Tk), i = b ∧ f.toks[b]? = some t ∧ p t = false
def holdB (t : Tk) : Bool := decide (t.op = 0 ∨ t.op = 4)
def leafB (t : Tk) : Bool := decide (t.op = 2 ∧ ¬ t.pres = 2)
def lvB (t : Tk) : Bool := decide (t.op = 14 ∧ ¬ t.pres = 2)
/-- The leaves among m tokens from k on. -/
def lvF (l : List Tk) : Nat → Nat → List Nat
  | _, 0 => []
  | k, m + 1 => (if (l[k]?).any lvB = true then [k] else []) ++ lvF l (k + 1) m
theorem lvF_length (l : List Tk) : ∀ m k, (lvF l k m).length ≤ m
  | 0, _ => Nat.le_refl _
  | m + 1, k => by
    rw [lvF, List.length_append]
    have := lvF_length l m (k + 1)
    split <;> simp <;> omega
theorem lvF_yes {l : List Tk} {k m : Nat} {u : Tk} (hu : l[k]? = some u) (h : lvB u = true) : lvF l k (m + 1) = [k] ++ lvF l (k + 1) m := by
  rw [lvF, if_pos (by rw [hu]; exact h)]
theorem lvF_no {l : List Tk} {k m : Nat} {u : Tk} (hu : l[k]? = some u) (h : lvB u = false) : lvF l k (m + 1) = lvF l (k + 1) m := by
  rw [lvF, if_neg (by rw [hu]; show ¬ lvB u = true; rw [h]; decide), List.nil_append]
theorem rise_from : ∀ {ks : List Nat} {lo n : Nat}, ks.Pairwise (· < ·) → (∀ k ∈ ks, lo ≤ k ∧ k < n) → ks.length ≤ n - lo
  | [], _, _, _, _ => Nat.zero_le _
  | k :: r, lo, n, h, hn => by
    obtain ⟨h1, h2⟩ := List.pairwise_cons.1 h
    have := rise_from (lo := k + 1) (n := n) h2 (fun j hj => ⟨h1 j hj, (hn j (List.mem_cons_of_mem _ hj)).2⟩)
    have := hn k (List.mem_cons_self ..)
    simp only [List.length_cons]
    omega
theorem rise_length {ks : List Nat} {n : Nat} (h : ks.Pairwise (· < ·)) (hn : ∀ k ∈ ks, k < n) : ks.length ≤ n := rise_from (lo := 0) h fun k hk => ⟨Nat.zero_le _, hn k hk⟩
/-- The parts right inside what begins at i. -/
def PartsOf (f : Fm) (i : Int) (ks : List Nat) : Prop :=
  (∃ b n t, BegAt f i b n t ∧ holdB t = true ∧ Chn f.toks (b + 1) ks n ∧ (∀ k ∈ ks, b < k ∧ k < n) ∧ ks.Pairwise (· < ·)) ∨ (NotAt f i holdB ∧ ks = [])
/-- The leaves of the field that begins at i. -/
def LeavesOf (f : Fm) (i : Int) (ks : List Nat) : Prop :=
  (∃ b n t, BegAt f i b n t ∧ leafB t = true ∧ ks = lvF f.toks (b + 1) (n - (b + 1))) ∨ (NotAt f i leafB ∧ ks = [])
theorem isAt_iff {f : Fm} {i : Int} : isAtB f i = true ↔ chkZ f = none ∧ ∃ (b : Nat) (t : Tk), i = b ∧ f.toks[b]? = some t := by
  unfold isAtB
  rw [Bool.and_eq_true, decide_eq_true_iff, decide_eq_true_iff]
  constructor
  · rintro ⟨⟨h0, h1⟩, h2⟩
    refine ⟨h2, i.toNat, f.toks[i.toNat]'(by omega), by omega, List.getElem?_eq_getElem _⟩
  · rintro ⟨h2, b, t, rfl, ht⟩
    have := (List.getElem?_eq_some_iff.1 ht).1
    exact ⟨⟨by omega, by omega⟩, h2⟩
theorem begAt_of {f : Fm} {b : Nat} {t : Tk} (hz : chkZ f = none) (ht : f.toks[b]? = some t) (hg : bgO t.op = true) : ∃ n ks, BegAt f b b n t ∧ Chn f.toks (b + 1) ks n ∧ (∀ k ∈ ks, b < k ∧ k < n) ∧ ks.Pairwise (· < ·) := by
  obtain ⟨n, ks, h1, h2, h3, h4, h5⟩ := valid_kids hz ht hg
  refine ⟨n, ks, ⟨hz, rfl, ht, h1, h2, ?_⟩, h3, h4, h5⟩
  cases ks with
  | nil => have : b + 1 = n := h3; omega
  | cons k r => have := h4 k (List.mem_cons_self ..); omega
theorem parts_ex (f : Fm) (i : Int) : ∃ ks, PartsOf f i ks := by
  cases h : isAtB f i with
  | false => exact ⟨[], .inr ⟨⟨fun e => by rw [h] at e; cases e⟩, rfl⟩⟩
  | true =>
    obtain ⟨hz, b, t, rfl, ht⟩ := isAt_iff.1 h
    cases hp : holdB t with
    | false => exact ⟨[], .inr ⟨⟨fun _ => ⟨b, t, rfl, ht, hp⟩⟩, rfl⟩⟩
    | true =>
      have hb : bgO t.op = true := by
        unfold holdB at hp
        rcases of_decide_eq_true hp with h | h <;> rw [h] <;> rfl
      obtain ⟨n, ks, h1, h2⟩ := begAt_of hz ht hb
      exact ⟨ks, .inl ⟨b, n, t, h1, hp, h2⟩⟩
theorem leaves_ex (f : Fm) (i : Int) : ∃ ks, LeavesOf f i ks := by
  cases h : isAtB f i with
  | false => exact ⟨[], .inr ⟨⟨fun e => by rw [h] at e; cases e⟩, rfl⟩⟩
  | true =>
    obtain ⟨hz, b, t, rfl, ht⟩ := isAt_iff.1 h
    cases hp : leafB t with
    | false => exact ⟨[], .inr ⟨⟨fun _ => ⟨b, t, rfl, ht, hp⟩⟩, rfl⟩⟩
    | true =>
      have hb : bgO t.op = true := by
        unfold leafB at hp
        rw [(of_decide_eq_true hp).1]; rfl
      obtain ⟨n, ks, h1, h2⟩ := begAt_of hz ht hb
      exact ⟨_, .inl ⟨b, n, t, h1, hp, rfl⟩⟩
theorem parts_len {f : Fm} {i : Int} {ks : List Nat} (h : PartsOf f i ks) : ks.length ≤ f.toks.length := by
  rcases h with ⟨b, n, t, h1, _, _, h2, h3⟩ | ⟨_, rfl⟩
  · have := rise_length h3 (fun k hk => (h2 k hk).2); have := h1.nl; omega
  · exact Nat.zero_le _
theorem leaves_len {f : Fm} {i : Int} {ks : List Nat} (h : LeavesOf f i ks) : ks.length ≤ f.toks.length := by
  rcases h with ⟨b, n, t, h1, _, rfl⟩ | ⟨_, rfl⟩
  · have := lvF_length f.toks (n - (b + 1)) (b + 1); have := h1.nl; omega
  · exact Nat.zero_le _
end Go.Proofs.YtjjhfiddebmgcaaGreatDoor
namespace Go.Proofs.YtjjhfiddebmgcaaGreatDoor
open Go.ChangeShapes Go.WideShapes Go.ChangeAt Go.RowKit Go.Shelf Go.Maps

set_option maxRecDepth 20000 in
theorem isAt_any (f : Fm) (i : Int) (pp : Option Addr) (cp : Nat) (w : World) (tl : TkL w pp w.heap.size f.toks) (kt : KT w) (mt : MT w) :
    Calls Tryz.prog 22 #[fmV f pp cp, .int .i64 i] w fun r w' => r = .returned (.bool (isAtB f i)) ∧ Below w.heap.size w w' := by
  have c : ∀ W, Below w.heap.size w W → Calls Tryz.prog 39 #[fmV f pp cp] W fun r w' => r = .returned (.tuple #[.int .i64 (errZ (chkZ f)), .int .i64 (atZ (chkZ f))]) ∧ Below W.heap.size W w' := fun W hb => Check_any f pp cp W ((tl.below hb).mono hb.size) (kt.up hb) (mt.below mt.pos hb)
  replace c : Hid _ := ⟨c⟩
  have hE : (errZ (chkZ f) == 0) = decide (chkZ f = none) := by cases hz : chkZ f <;> simp [errZ]
  clear tl kt mt
  unfold isAtB
  by_cases h0 : i < 0
  · have d0 : decide (i < 0) = true := by simp; omega
    go_enter Tryz.func22, Tryz.ntmps22
    go_wp2_with fail
    go_ret
    exact ⟨rb (by simp; omega), bel1 _ _⟩
  have d0 : decide (i < 0) = false := by simp; omega
  by_cases h1 : i < f.toks.length
  · have d1 : decide (i ≥ (f.toks.length : Int)) = false := by simp; omega
    generalize errZ (chkZ f) = e at c hE
    generalize atZ (chkZ f) = a at c
    go_enter Tryz.func22, Tryz.ntmps22
    go_wp2_with (go_at_call 39; refine (c.out _ (bel1 _ _)).mono ?_; rintro _ w1 ⟨rfl, hb⟩; replace hb : Hid _ := ⟨hb⟩)
    go_ret
    exact ⟨rb (by have h3 : 0 ≤ i ∧ i < f.toks.length := (by omega); simp [h3]), (bel1 w _).trans (hb.out.mono (bel1 w _).size)⟩
  · have d1 : decide (i ≥ (f.toks.length : Int)) = true := by simp; omega
    go_enter Tryz.func22, Tryz.ntmps22
    go_wp2_with fail
    go_ret
    exact ⟨rb (by simp; omega), bel1 _ _⟩
end Go.Proofs.YtjjhfiddebmgcaaGreatDoor
namespace Go.Proofs.YtjjhfiddebmgcaaGreatDoor
open Go.ChangeShapes Go.WideShapes Go.ChangeAt Go.RowKit Go.Shelf Go.Maps

theorem fm_al (w : World) (f : Fm) (pp : Option Addr) (cp : Nat) : FmC (w.alloc (fmO f pp cp)) w.heap.size 0 f pp cp := fm_new w f pp cp
/-- isAt, as its callers meet it. -/
def IsAtC (w : World) (f : Fm) (i : Int) (pp : Option Addr) (cp : Nat) : Prop := ∀ W, Below w.heap.size w W → Calls Tryz.prog 22 #[fmV f pp cp, .int .i64 i] W fun r w' => r = .returned (.bool (isAtB f i)) ∧ Below W.heap.size W w'
theorem holdsParts_at (op : Int) (w : World) : Calls Tryz.prog 23 #[.int .i64 op] w fun r w' => r = .returned (.bool (decide (op = 0 ∨ op = 4))) ∧ w' = w := by
  by_cases h0 : op = 0
  · subst h0
    go_enter Tryz.func23, Tryz.ntmps23
    go_wp2_with fail
    go_ret
    exact ⟨rfl, rfl⟩
  · by_cases h4 : op = 4
    · subst h4
      go_enter Tryz.func23, Tryz.ntmps23
      go_wp2_with fail
      go_ret
      exact ⟨rfl, rfl⟩
    · have b0 : (op == 0) = false := beq_eq_false_iff_ne.2 h0
      have b4 : (op == 4) = false := beq_eq_false_iff_ne.2 h4
      have hb : Hid (decide (op = 0 ∨ op = 4) = false) := ⟨by simp [h0, h4]⟩
      clear h0 h4
      go_enter Tryz.func23, Tryz.ntmps23
      go_wp2_with fail
      go_ret
      exact ⟨by rw [hb.out]; rfl, rfl⟩
set_option maxRecDepth 20000 in
set_option maxHeartbeats 4000000 in
theorem parts_some (f : Fm) (i : Int) (b n : Nat) (t : Tk) (ks : List Nat) (pp : Option Addr) (cp : Nat) (w : World) (tl : TkL w pp w.heap.size f.toks) (cA : IsAtC w f i pp cp) (hb : BegAt f i b n t) (ho : holdB t = true) (hk : Chn f.toks (b + 1) ks n) (hkn : ∀ k ∈ ks, b < k ∧ k < n) (hks : ks.Pairwise (· < ·)) :
    Calls Tryz.prog 13 #[fmV f pp cp, .int .i64 i] w fun r w' => ∃ v, r = .returned v ∧ NRow w' w.heap.size v ks ∧ Below w.heap.size w w' := by
  obtain ⟨hz, rfl, ht, hn, hnl, hbn⟩ := hb
  have hil := (List.getElem?_eq_some_iff.1 ht).1
  obtain ⟨g, o, _, _, rfl, hg, _⟩ := tl.at ht
  have hili : (b : Int) < f.toks.length := by omega
  have hF := fm_new w f (some ⟨g, o, none⟩) cp
  have HB : Below w.heap.size w (w.alloc (fmO f (some ⟨g, o, none⟩) cp)) := nbel _ _
  have HS : (w.alloc (fmO f (some ⟨g, o, none⟩) cp)).heap.size = w.heap.size + 1 := World.size_alloc _ _
  generalize hW : w.alloc (fmO f (some ⟨g, o, none⟩) cp) = W at hF HB HS
  simp only [fmO] at hW
  replace cA := cA W HB
  have hat : isAtB f b = true := isAt_iff.2 ⟨hz, b, t, rfl, ht⟩
  rw [hat] at cA
  have F0 := hF.c0
  have F1 := hF.c1
  have F2 := hF.c2
  have F3 := hF.c3
  have F4 := hF.c4
  have F5 := hF.c5
  have F6 := hF.c6
  have F7 := hF.c7
  have F8 := hF.c8
  have F9 := hF.c9
  have F10 := hF.c10
  have F11 := hF.c11
  have F12 := hF.c12
  simp only [Nat.zero_add] at F1 F2 F3 F4 F5 F6 F7 F8 F9 F10 F11 F12
  have hT : Hid (∀ W', Below w.heap.size w W' → ∀ k u, f.toks[k]? = some u → ∃ pc cc, TkC W' g (o + k * 21) u pc cc) := ⟨fun W' hb k u hu => by
    obtain ⟨g', o', pc, cc, e, _, h1, _⟩ := (tl.below hb).at hu
    cases e
    exact ⟨pc, cc, h1⟩⟩
  have hY : Hid (∀ W', Below W.heap.size W W' → FmC W' w.heap.size 0 f (some ⟨g, o, none⟩) cp) := ⟨fun W' hb => hF.below (by omega) hb⟩
  have cP := fun W' => holdsParts_at t.op W'
  rw [show decide (t.op = 0 ∨ t.op = 4) = true from ho] at cP
  have hll : f.toks.length ≤ 733007751850 := by have := tl.len; omega
  have hw1 : IntKind.i64.wrap ((b : Int) + 1) = (b : Int) + 1 := by rw [IntKind.wrap_i64]; omega
  replace HB : Hid _ := ⟨HB⟩
  replace HS : Hid _ := ⟨HS⟩
  have hkl : Hid (ks.length ≤ n) := ⟨rise_length hks fun k hk => (hkn k hk).2⟩
  replace hks : Hid _ := ⟨hks⟩
  clear hF ho hat hz
  go_enter Tryz.func13, Tryz.ntmps13
  go_wp2_with (first
    | (go_at_call 22; refine cA.mono ?_; rintro _ w1 ⟨rfl, hb1⟩; obtain ⟨pc, cc, hTt⟩ := hT.out w1 (HB.out.trans (hb1.mono HB.out.size)) b t ht; have z0 := hTt.c0; have y12 := (hY.out _ hb1).c12; simp only [Nat.zero_add] at y12; clear hTt)
    | (go_at_call 23; refine (cP _).mono ?_; rintro _ wq ⟨rfl, e⟩; obtain rfl : w1 = wq := e.symm))
  clear F0 F1 F2 F3 F4 F5 F6 F7 F8 F9 F10 F11 F12 z0 y12 cP cA
  replace hb1 : Hid _ := ⟨hb1⟩
  go_loopw [6, 5] (fun q6 q5 wr => ∃ (k : Nat) (ks1 ks2 : List Nat), q6 = .int .i64 k ∧ k ≤ n ∧ Hid (ks = ks1 ++ ks2 ∧ Chn f.toks k ks2 n) ∧ Hid (NRow wr W.heap.size q5 ks1) ∧ Hid (Below W.heap.size W wr)) (fun q6 _ _ => n - (RowKit.intOf q6).toNat)
  case atStart => exact ⟨b + 1, [], ks, by go_num, hbn, ⟨rfl, hk⟩, ⟨NRow.nil _ _⟩, ⟨hb1.out⟩⟩
  case round =>
    obtain ⟨k, ks1, ks2, rfl, hkn', hC, hI, hB⟩ := hrel
    have y12 := (hY.out _ hB.out).c12
    simp only [Nat.zero_add] at y12
    have hBw := HB.out.trans (hB.out.mono HB.out.size)
    obtain ⟨pc, cc, hTt⟩ := hT.out wr hBw b t ht
    have z20 := hTt.c20
    rw [hn] at z20
    have hn' : Hid _ := ⟨hn⟩
    clear hTt hn
    cases ks2 with
    | nil =>
      obtain ⟨e1, e2⟩ := hC.out
      obtain rfl : k = n := e2
      have hI2 := hI.out.low (base' := w.heap.size) (by have := HS.out; omega)
      have e3 : ks1 = ks := by rw [e1, List.append_nil]
      rw [e3] at hI2
      replace hI2 : Hid _ := ⟨hI2⟩
      replace hBw : Hid _ := ⟨hBw⟩
      clear hC e1 e3
      go_wp2_with fail
      go_ret
      exact ⟨_, rfl, hI2.out, hBw.out⟩
    | cons k' r =>
      obtain ⟨e1, rfl, u, m, hu, hum, hC2⟩ := hC.out
      have hkm := hkn k (by rw [e1]; simp)
      have hlt : (k : Int) < n := by omega
      have hkf : (k : Int) < f.toks.length := by omega
      have hmn : m < n ∧ k ≤ m := by
        cases r with
        | nil => have : m + 1 = n := hC2; omega
        | cons k2 r2 =>
          obtain rfl : m + 1 = k2 := hC2.1
          have h1 := hkn (m + 1) (by rw [e1]; simp)
          have h2 := hks.out
          rw [e1, List.pairwise_append, List.pairwise_cons] at h2
          have := h2.2.1.1 (m + 1) (by simp)
          omega
      have hrl : ks1.length + 1 ≤ 977343669134 := by
        have h1 := hkl.out
        rw [e1, List.length_append, List.length_cons] at h1
        omega
      have e1' : Hid (ks = (ks1 ++ [k]) ++ r) := ⟨by rw [e1]; simp⟩
      replace hC2 : Hid _ := ⟨hC2⟩
      replace hBw : Hid _ := ⟨hBw⟩
      obtain ⟨pu, cu, hTu⟩ := hT.out wr hBw.out k u hu
      have u20 := hTu.c20
      rw [hum] at u20
      clear hC hTu hum e1
      have hap : Hid _ := ⟨n_ap k hI.out hrl (Nat.le_trans (Nat.le_refl _) hB.out.size)⟩
      have hw2 : IntKind.i64.wrap ((m : Int) + 1) = (m : Int) + 1 := by rw [IntKind.wrap_i64]; omega
      have G : Hid (∀ W', Below W.heap.size wr W' → W'.cell? ⟨w.heap.size, 12, none⟩ = some (.slice (some ⟨g, o, none⟩) f.toks.length cp) ∧ W'.cell? ⟨g, o + k * 21 + 20, none⟩ = some (.int .i64 (m : Int))) := ⟨fun W' hb' => ⟨(hb'.cell (p := ⟨w.heap.size, 12, none⟩) (by have := HS.out; show w.heap.size < W.heap.size; omega)).trans y12, (hb'.cell (p := ⟨g, o + k * 21 + 20, none⟩) (by have := HS.out; show g < W.heap.size; omega)).trans u20⟩⟩
      go_wp2_with (at_builtin; go_must (refine (ap_step (by rfl) _ _ _ _ (by rfl) _ _ (by rfl) (by rfl) _ hap.out ?_)); rintro v' w' ⟨q1, q2⟩; obtain ⟨y12', u20'⟩ := G.out w' q2; replace q1 : Hid _ := ⟨q1⟩; replace q2 : Hid _ := ⟨q2⟩)
      go_roundw
      case rel => exact ⟨m + 1, ks1 ++ [k], r, by go_num, by omega, ⟨e1'.out, hC2.out⟩, ⟨q1.out⟩, ⟨hB.out.trans q2.out⟩⟩
      case measure => simp [RowKit.intOf]; omega
end Go.Proofs.YtjjhfiddebmgcaaGreatDoor

/- IDp, IDb, IDx, IDy, IYu. -/
import Derived.Test.YtjjhfiddebmgcaaGreatDoorG27
import Derived.Test.YtjjhfiddebmgcaaGreatDoorG05
import Derived.Test.YtjjhfiddebmgcaaGreatDoorG06
import Derived.Test.YtjjhfiddebmgcaaGreatDoorG08
namespace Go.Proofs.YtjjhfiddebmgcaaGreatDoor

abbrev sp0 : Sp := ⟨0, 0⟩
/-- A token with no field but its kind's own. -/
def maskD (t : Tk) : Tk :=
  if t.op = 0 then ⟨t.op, t.name, t.id, 0, 0, t.since, 0, 0, 0, 0, 0, 0, [], 0, t.blk, t.full, sp0, sp0, t.pair⟩ else
  if t.op = 4 then ⟨t.op, t.name, t.id, 0, t.siz, t.since, 0, 0, 0, 0, 0, 0, [], 0, t.blk, t.full, t.a, t.b, t.pair⟩ else
  if t.op = 2 then ⟨t.op, t.name, t.id, t.off, t.siz, t.since, 0, 0, t.pres, 0, 0, 0, t.cst, 0, 0, 0, sp0, sp0, t.pair⟩ else
  if t.op = 6 then ⟨t.op, t.name, t.id, 0, t.siz, t.since, t.prim, 0, 0, 0, 0, 0, [], 0, 0, 0, t.a, sp0, t.pair⟩ else
  if t.op = 8 then ⟨t.op, t.name, 0, t.off, t.siz, 0, 0, 0, 0, 0, 0, 0, [], 0, 0, 0, sp0, sp0, t.pair⟩ else
  if t.op = 10 ∨ t.op = 12 then ⟨t.op, t.name, 0, t.off, t.siz, 0, 0, 0, t.pres, 0, 0, 0, [], 0, 0, 0, sp0, sp0, t.pair⟩ else
  if t.op = 14 then ⟨t.op, t.name, 0, t.off, t.siz, 0, t.prim, t.len, t.pres, t.nul, t.lo, t.hi, t.cst, 0, 0, 0, sp0, sp0, t.pair⟩ else
  if t.op = 15 then ⟨t.op, t.name, 0, 0, 0, t.since, 0, 0, 0, 0, 0, 0, [], t.val, 0, 0, sp0, sp0, t.pair⟩ else
  ⟨t.op, t.name, 0, 0, 0, 0, 0, 0, 0, 0, 0, 0, [], 0, 0, 0, sp0, sp0, t.pair⟩
theorem sp_eq (s : Sp) (h1 : s.p = 0) (h2 : s.o = 0) : sp0 = s := by cases s; simp_all
theorem maskD_iff (t : Tk) : maskD t = t ↔ plainB t = true := by
  obtain ⟨op, nm, id, off, siz, si, pr, len, ps, nul, lo, hi, cst, val, blk, full, ⟨ap, ao⟩, ⟨bp, bo⟩, pair⟩ := t
  unfold maskD plainB nzs mays
  simp only
  by_cases h0 : op = 0
  · subst h0; simp [subB]; constructor <;> intro h <;> simp_all <;> (try omega)
  by_cases h4 : op = 4
  · subst h4; simp [subB]; constructor <;> intro h <;> simp_all <;> (try omega)
  by_cases h2 : op = 2
  · subst h2; simp [subB]; constructor <;> intro h <;> simp_all <;> (try omega)
  by_cases h6 : op = 6
  · subst h6; simp [subB]; constructor <;> intro h <;> simp_all <;> (try omega)
  by_cases h8 : op = 8
  · subst h8; simp [subB]; constructor <;> intro h <;> simp_all <;> (try omega)
  by_cases h10 : op = 10 ∨ op = 12
  · rcases h10 with h | h <;> · subst h; simp [subB]; constructor <;> intro h <;> simp_all <;> (try omega)
  by_cases h14 : op = 14
  · subst h14; simp [subB]; constructor <;> intro h <;> simp_all <;> (try omega)
  by_cases h15 : op = 15
  · subst h15; simp [subB]; constructor <;> intro h <;> simp_all <;> (try omega)
  simp only [h0, h4, h2, h6, h8, h10, h14, h15, if_false]
  simp [subB]
  constructor <;> intro h <;> simp_all <;> (try omega)
/-- What stands in a field's rule behind the names. -/
def fldR (f : Fm) (i : Nat) (x : Sc) (t : Tk) : Bool := bet t.since x.fld f.ver && (if t.pres = 0 then decide (t.since = x.tk.since) && inB f.toks i x t else if t.pres = 1 then inB f.toks i x t else if t.pres = 2 then decide (t.off = 0 ∧ t.siz = 0 ∧ t.cst.length ≠ 0) else false)
theorem fld_split (f : Fm) (ids : List Int) (i : Nat) (x : Sc) (t : Tk) : fldB f ids i x t = (newB f.toks ids x t && fldR f i x t) := by unfold fldB fldR; rw [Bool.and_assoc]
theorem fldR_iff {f : Fm} {i : Nat} {x : Sc} {t u : Tk} (he : 0 ≤ x.e0) (hf : x.tk.since ≤ x.fld) (hb : 0 ≤ x.tk.blk) (hu : f.toks[i + 1]? = some u) : fldR f i x t = true ↔
    (x.tk.since ≤ t.since ∧ x.fld ≤ t.since ∧ t.since ≤ f.ver ∧ 0 ≤ t.pres ∧ t.pres ≤ 2 ∧ (t.pres = 0 → t.since = x.tk.since)) ∧ ((t.pres = 2 ∧ t.off = 0 ∧ t.siz = 0 ∧ 0 < t.cst.length) ∨ (t.pres ≠ 2 ∧ t.cst.length = 0 ∧ 0 ≤ t.siz ∧ 0 ≤ t.off ∧ (t.siz = 0 → t.off = 0) ∧ t.off ≤ x.tk.blk ∧ t.siz ≤ x.tk.blk - t.off ∧ u.siz = t.siz ∧ (0 < t.siz → x.e0 ≤ t.off))) := by
  unfold fldR inB bet
  rw [hu]
  generalize t.cst.length = n
  by_cases h0 : t.pres = 0
  · by_cases hz : t.siz = 0 <;> simp [h0, hz] <;> omega
  by_cases h1 : t.pres = 1
  · by_cases hz : t.siz = 0 <;> simp [h1, hz] <;> omega
  by_cases h2 : t.pres = 2
  · simp only [h2, if_true]
    simp
    omega
  · simp [h0, h1, h2]
    omega
def grpR (f : Fm) (o : List Sc) (x : Sc) (t : Tk) : Bool := rowB f x t && (blkB t && bet t.siz 1 65535) && (lieB t.a t.siz && lieB t.b t.siz && aptB t.a t.b && telB t.a t.full && decide (depB 4 o < 8))
theorem apt_comm (a b : Sp) : aptB a b = aptB b a := by unfold aptB; rw [Bool.eq_iff_iff]; simp; omega
theorem grp_split (f : Fm) (o : List Sc) (ids : List Int) (x : Sc) (t : Tk) : grpB f o ids x t = (newB f.toks ids x t && grpR f o x t) := by
  unfold grpB grpR
  rw [apt_comm t.a t.b, Bool.eq_iff_iff]
  simp only [Bool.and_eq_true]
  constructor
  · rintro ⟨⟨⟨⟨⟨⟨h1, h2⟩, h3⟩, h4⟩, h5⟩, h6, h7, h8⟩, h9⟩; exact ⟨h2, ⟨h3, h4, h5⟩, ⟨⟨⟨h6, h7⟩, h8⟩, h9⟩, h1⟩
  · rintro ⟨h2, ⟨h3, h4, h5⟩, ⟨⟨⟨h6, h7⟩, h8⟩, h9⟩, h1⟩; exact ⟨⟨⟨⟨⟨⟨h1, h2⟩, h3⟩, h4⟩, h5⟩, h6, h7, h8⟩, h9⟩
def datR (f : Fm) (x : Sc) (t : Tk) : Bool := rowB f x t && (decide (t.a.o = 0) && lieB t.a 4 && decide (t.siz = sz t.a.p) && decide (t.prim = 0 ∨ t.prim = 5))
theorem sz_num {p : Int} (h : numB p = true) : 0 < sz p ∧ sz p ≤ 4 := by
  unfold numB at h
  rcases decT h with rfl | rfl | rfl <;> decide
theorem dat_split (f : Fm) (ids : List Int) (x : Sc) (t : Tk) : datB f ids x t = (newB f.toks ids x t && datR f x t) := by
  unfold datB datR lieB
  rw [Bool.eq_iff_iff]
  simp only [Bool.and_eq_true, decide_eq_true_eq]
  constructor
  · rintro ⟨⟨⟨⟨⟨h1, h2⟩, h3⟩, h4⟩, h5⟩, h6⟩
    have := sz_num h4
    exact ⟨h1, h2, ⟨⟨h3, h4, by omega, by omega⟩, h5⟩, h6⟩
  · rintro ⟨h1, h2, ⟨⟨h3, h4, _⟩, h5⟩, h6⟩
    exact ⟨⟨⟨⟨⟨h1, h2⟩, h3⟩, h4⟩, h5⟩, h6⟩
theorem rowB_iff {f : Fm} {x : Sc} {t : Tk} (hr : x.tk.since ≤ x.row) : rowB f x t = true ↔ ((x.tk.op = 4 → t.since = x.tk.since) ∧ (x.tk.op ≠ 4 → x.tk.since ≤ t.since ∧ x.row ≤ t.since ∧ t.since ≤ f.ver)) := by
  unfold rowB bet
  by_cases h : x.tk.op = 4
  · simp [h]
  · simp [h]; omega
theorem blkB_iff {t : Tk} : (blkB t && bet t.siz 1 65535) = true ↔ (1 ≤ t.siz ∧ t.siz ≤ 65535 ∧ 0 ≤ t.blk ∧ t.blk ≤ t.full ∧ t.full ≤ 65535) := by
  unfold blkB bet
  simp
  omega
theorem plcB_iff {x : Sc} {t : Tk} (ho : x.tk.op = 2 ∨ x.tk.op = 8 ∨ x.tk.op = 10 ∨ x.tk.op = 12) : plcB x t = true ↔ (0 ≤ t.siz ∧ t.siz ≤ 65535 ∧ 0 ≤ t.pres ∧ t.pres ≤ 2) ∧ (x.tk.op = 2 → t.off = 0) ∧
    (x.tk.op = 10 ∨ x.tk.op = 12 → t.off = x.tk.off ∧ t.siz = x.tk.siz ∧ t.pres = x.tk.pres ∧ t.len = 1 ∧ (x.tk.op = 10 → t.prim ≠ 9 ∧ t.prim ≠ 10) ∧ (x.tk.op = 12 → 5 ≤ t.prim ∧ t.prim ≤ 8)) ∧
    (x.tk.op = 8 → x.tk.off ≤ t.off ∧ t.off ≤ x.tk.off + x.tk.siz ∧ t.siz ≤ x.tk.off + x.tk.siz - t.off ∧ (0 < t.siz → x.e0 ≤ t.off)) := by
  unfold plcB codB memB bet
  rcases ho with h | h | h | h <;> simp [h] <;> omega
def encR (t : Tk) : Bool := bet t.len 1 65535 && (fitsP t.prim t.nul && fitsP t.prim t.lo && fitsP t.prim t.hi) && (if t.pres = 2 then decide (t.siz = 0) && decide ((t.cst.length : Int) = t.len) && t.cst.all (fitsP t.prim) else decide (t.siz = t.len * sz t.prim) && decide (t.cst.length = 0))
theorem enc_split (x : Sc) (t : Tk) : encB x t = (plcB x t && encR t) := by unfold encB encR; simp only [Bool.and_assoc]
theorem nameIn_no {l : List Tk} {ks : List Nat} {s : ByteArray} : nameIn l ks s = false ↔ ∀ k ∈ ks, ∀ u, l[k]? = some u → u.name ≠ s := by
  unfold nameIn
  rw [List.any_eq_false]
  constructor
  · intro h k hk u hu e
    have := h k hk
    rw [hu] at this
    simp [e] at this
  · intro h k hk
    cases hu : l[k]? with
    | none => simp
    | some u => simpa using h k hk u hu
theorem valIn_no {l : List Tk} {ks : List Nat} {s : Int} : valIn l ks s = false ↔ ∀ k ∈ ks, ∀ u, l[k]? = some u → u.val ≠ s := by
  unfold valIn
  rw [List.any_eq_false]
  constructor
  · intro h k hk u hu e
    have := h k hk
    rw [hu] at this
    simp [e] at this
  · intro h k hk
    cases hu : l[k]? with
    | none => simp
    | some u => simpa using h k hk u hu
/-- The names and values of an enum or set, sought token by token. -/
theorem cho_no {l : List Tk} {x : Sc} {i : Nat} {t : Tk} (hk : x.kids = List.range' (x.at_ + 1) (i - (x.at_ + 1))) : (nameIn l x.kids.tail t.name = false ∧ valIn l x.kids.tail t.val = false) ↔ ∀ k, x.at_ + 2 ≤ k → k < i → ∀ u, l[k]? = some u → ¬ (u.name = t.name ∨ u.val = t.val) := by
  have e : x.kids.tail = List.range' (x.at_ + 2) (i - (x.at_ + 2)) := by
    rw [hk]
    by_cases h : x.at_ + 1 < i
    · rw [show i - (x.at_ + 1) = (i - (x.at_ + 2)) + 1 by omega, List.range'_succ]
      rfl
    · rw [show i - (x.at_ + 1) = 0 by omega, show i - (x.at_ + 2) = 0 by omega]
      rfl
  rw [nameIn_no, valIn_no, e]
  constructor
  · rintro ⟨h1, h2⟩ k hk1 hk2 u hu
    have hm : k ∈ List.range' (x.at_ + 2) (i - (x.at_ + 2)) := List.mem_range'_1.2 (by omega)
    exact fun e => e.elim (h1 k hm u hu) (h2 k hm u hu)
  · intro h
    refine ⟨fun k hm u hu e => ?_, fun k hm u hu e => ?_⟩
    · have := List.mem_range'_1.1 hm
      exact h k (by omega) (by omega) u hu (.inl e)
    · have := List.mem_range'_1.1 hm
      exact h k (by omega) (by omega) u hu (.inr e)
/-- The document's Stage behind a token. -/
theorem stg_met {l : List Tk} {i : Nat} {x : Sc} {t : Tk} (hx : ScOk l i x) (ht : l[i]? = some t) (hm : mayB l x t.op = true) (he : edO t.op = false) :
    stgO l (metX x i t) = if t.op = 4 then 1 else if t.op = 6 then 2 else if tyO t.op then stgO l x + 1 else stgO l x := by
  have hl : lastOp l (metX x i t) = t.op := by unfold lastOp metX; simp [ht]
  have hk : (metX x i t).kids = x.kids ++ [i] := rfl
  have htk : (metX x i t).tk = x.tk := rfl
  have h2 := may_typ hm he hx.beg
  unfold stgO
  rw [hl, hk, htk]
  rcases h2 with ⟨h0, hp, hle⟩ | ⟨h0, hz, hty⟩ | ⟨h0, hty⟩ | ⟨h0, ⟨hz, h14⟩ | ⟨hz, h15⟩⟩
  · rw [if_pos h0, if_pos h0]
    unfold ptO at hp
    have hp := decT hp
    have hll := last_par hx h0
    rcases hp with e | e | e
    · rw [e]
      have : lastOp l x = 0 ∨ lastOp l x = 2 := by omega
      rcases this with e | e <;> rw [e] <;> rfl
    · rw [e]; rfl
    · rw [e]; rfl
  · have hy := hty
    unfold tyO at hty
    have hty := decT hty
    have a1 : ¬ (x.tk.op = 0 ∨ x.tk.op = 4) := by omega
    have a2 : ¬ (x.tk.op = 10 ∨ x.tk.op = 12) := by omega
    have a3 : ¬ t.op = 4 := by omega
    have a4 : ¬ t.op = 6 := by omega
    rw [if_neg a1, if_neg a2, if_neg a3, if_neg a4, if_pos hy, if_neg a1, if_neg a2]
    simp
  · have hy := hty
    unfold tyO at hty
    have hty := decT hty
    have a1 : ¬ (x.tk.op = 0 ∨ x.tk.op = 4) := by omega
    have a2 : ¬ (x.tk.op = 10 ∨ x.tk.op = 12) := by omega
    have a3 : ¬ t.op = 4 := by omega
    have a4 : ¬ t.op = 6 := by omega
    rw [if_neg a1, if_neg a2, if_neg a3, if_neg a4, if_pos hy, if_neg a1, if_neg a2]
    simp
  · have a1 : ¬ (x.tk.op = 0 ∨ x.tk.op = 4) := by omega
    rw [h14, if_neg a1, if_pos h0, if_neg (by simp), if_neg (by decide), if_neg (by decide), if_pos (by decide), if_neg a1, if_pos h0]
    simp [hz]
  · have a1 : ¬ (x.tk.op = 0 ∨ x.tk.op = 4) := by omega
    rw [h15, if_neg a1, if_pos h0, if_neg (by simp), if_neg (by decide), if_neg (by decide), if_neg (by decide), if_neg a1, if_pos h0]
    simp [hz]
end Go.Proofs.YtjjhfiddebmgcaaGreatDoor
namespace Go.Proofs.YtjjhfiddebmgcaaGreatDoor
open Go.ChangeShapes Go.WideShapes Go.ChangeAt Go.RowKit Go.Shelf

theorem refLies_any (s : Sp) (n : Int) (w : World) (hn : 0 ≤ n ∧ n ≤ 9223372036854775807) : Calls Tryz.prog 25 #[spV s, .int .i64 n] w fun r w' => r = .returned (.bool (lieB s n)) ∧ Below w.heap.size w w' := by
  suffices hh : Calls Tryz.prog 25 #[spV s, .int .i64 n] w fun r w' => Ans r (lieB s n = true) ∧ Below w.heap.size w w' from hh.mono fun r w' h => ⟨h.1.same, h.2⟩
  by_cases h5 : s.p = 5
  · have hb : Hid0 (lieB s n = true ↔ 0 ≤ s.o ∧ s.o ≤ n - 1) := ⟨by unfold lieB numB; rw [h5]; simp only [sz_5]; simp; exact decide_eq_true_iff⟩
    have d5 : (s.p == 5) = true := by simp [h5]
    clear h5
    go_enter Tryz.func25, Tryz.ntmps25
    go_wp2_with fail
    all_goals
      go_ret
      refine ⟨⟨_, rfl, ?_⟩, bel1 _ _⟩
      rw [hb.out]
      simp_all
      try omega
  by_cases h6 : s.p = 6
  · have hb : Hid0 (lieB s n = true ↔ 0 ≤ s.o ∧ s.o ≤ n - 2) := ⟨by unfold lieB numB; rw [h6]; simp only [sz_6]; simp; exact decide_eq_true_iff⟩
    have d5 : (s.p == 5) = false := by simp [h5]
    have d6 : (s.p == 6) = true := by simp [h6]
    clear h5 h6
    go_enter Tryz.func25, Tryz.ntmps25
    go_wp2_with fail
    all_goals
      go_ret
      refine ⟨⟨_, rfl, ?_⟩, bel1 _ _⟩
      rw [hb.out]
      simp_all
      try omega
  by_cases h7 : s.p = 7
  · have hb : Hid0 (lieB s n = true ↔ 0 ≤ s.o ∧ s.o ≤ n - 4) := ⟨by unfold lieB numB; rw [h7]; simp only [sz_7]; simp; exact decide_eq_true_iff⟩
    have d5 : (s.p == 5) = false := by simp [h5]
    have d6 : (s.p == 6) = false := by simp [h6]
    have d7 : (s.p == 7) = true := by simp [h7]
    clear h5 h6 h7
    go_enter Tryz.func25, Tryz.ntmps25
    go_wp2_with fail
    all_goals
      go_ret
      refine ⟨⟨_, rfl, ?_⟩, bel1 _ _⟩
      rw [hb.out]
      simp_all
      try omega
  have hb : Hid0 (¬ lieB s n = true) := ⟨by unfold lieB numB; simp [h5, h6, h7]⟩
  have d5 : (s.p == 5) = false := by simp [h5]
  have d6 : (s.p == 6) = false := by simp [h6]
  have d7 : (s.p == 7) = false := by simp [h7]
  clear h5 h6 h7
  go_enter Tryz.func25, Tryz.ntmps25
  go_wp2_with fail
  all_goals
    go_ret
    exact ⟨Ans.no hb.out, bel1 _ _⟩
theorem refTells_any (s : Sp) (n : Int) (w : World) (hn : i64ok n) : Calls Tryz.prog 27 #[spV s, .int .i64 n] w fun r w' => r = .returned (.bool (telB s n)) ∧ Below w.heap.size w w' := by
  have cM := refMax_any s.p
  unfold telB
  unfold i64ok at hn
  by_cases h0 : 0 ≤ n
  · have hw : IntKind.u64.wrap n = n := by rw [IntKind.wrap_u64]; omega
    go_enter Tryz.func27, Tryz.ntmps27
    go_wp2_with (go_at_call 42; refine (cM _).mono ?_; rintro _ _ ⟨rfl, rfl⟩)
    go_ret
    exact ⟨rb (by simp [h0]), bel1 _ _⟩
  · have d0 : decide (0 ≤ n) = false := by simp; omega
    go_enter Tryz.func27, Tryz.ntmps27
    go_wp2_with (go_at_call 42; refine (cM _).mono ?_; rintro _ _ ⟨rfl, rfl⟩)
    go_ret
    exact ⟨rb (by simp; omega), bel1 _ _⟩
theorem dbb2 (w : World) (a b : Obj) : Below w.heap.size w ((w.alloc a).alloc b) := (bel1 w a).trans ((bel1 (w.alloc a) b).mono (al_le _ _))
theorem refApart_any (s t : Sp) (w : World) (hs : 0 ≤ s.o ∧ s.o ≤ 9223372036854775700) (ht : 0 ≤ t.o ∧ t.o ≤ 9223372036854775700) : Calls Tryz.prog 26 #[spV s, spV t] w fun r w' => r = .returned (.bool (aptB s t)) ∧ Below w.heap.size w w' := by
  have hz := sz_b s.p
  have hy := sz_b t.p
  have hw1 : IntKind.i64.wrap (t.o + sz t.p) = t.o + sz t.p := by rw [IntKind.wrap_i64]; omega
  have hw2 : IntKind.i64.wrap (s.o + sz s.p) = s.o + sz s.p := by rw [IntKind.wrap_i64]; omega
  suffices hh : Calls Tryz.prog 26 #[spV s, spV t] w fun r w' => Ans r (aptB s t = true) ∧ Below w.heap.size w w' from hh.mono fun r w' h => ⟨h.1.same, h.2⟩
  have hb : Hid0 (aptB s t = true ↔ (s.o + sz s.p ≤ t.o ∨ t.o + sz t.p ≤ s.o)) := ⟨by unfold aptB; rw [decide_eq_true_eq]⟩
  have cS := refSize_any s.p
  have cT := refSize_any t.p
  generalize sz s.p = a at *
  generalize sz t.p = b at *
  go_enter Tryz.func26, Tryz.ntmps26
  go_wp2_with (first | (go_at_call_of 41 (Value.int .i64 s.p); refine (cS _).mono ?_; rintro _ _ ⟨rfl, rfl⟩) | (go_at_call_of 41 (Value.int .i64 t.p); refine (cT _).mono ?_; rintro _ _ ⟨rfl, rfl⟩))
  all_goals
    go_ret
    refine ⟨⟨_, rfl, ?_⟩, dbb2 _ _ _⟩
    rw [hb.out]
    simp_all
    try omega
end Go.Proofs.YtjjhfiddebmgcaaGreatDoor
namespace Go.Proofs.YtjjhfiddebmgcaaGreatDoor
open Go.ChangeShapes Go.WideShapes Go.ChangeAt Go.RowKit Go.Shelf

/-- The worlds behind wr in which nothing of it changed. -/
theorem clsB (wr : World) : ∃ p : World → Prop, p wr.drew ∧ (∀ W, p W → Below wr.heap.size wr W) ∧ Nonempty (CW p) ∧ (∀ (g o : Nat), g < wr.heap.size → ∀ θ : CW p, θ.w.cell? ⟨g, o, none⟩ = wr.cell? ⟨g, o, none⟩) ∧
    (∀ (f : FuncId) (ag : Array Value) (v : Value), (∀ W, Below wr.heap.size wr W → Calls Tryz.prog f ag W fun e w' => e = .returned v ∧ Below W.heap.size W w') → ∀ W, p W → Calls Tryz.prog f ag W fun e w' => e = .returned v ∧ p w') :=
  ⟨Below wr.heap.size wr, drw (Below.refl _ _), fun _ h => h, ⟨⟨_, Below.refl _ _⟩⟩, fun g o hg θ => θ.h.cell (p := ⟨g, o, none⟩) hg, fun _ _ _ h => callB (Nat.le_refl _) h⟩
theorem ent_lies : ∀ ag w, (callFunc 25 ag).run Tryz.prog w = .ok (.enter 25 ag) w := enters_of Tryz.func25 (by kernel_rfl) rfl
theorem ent_apart : ∀ ag w, (callFunc 26 ag).run Tryz.prog w = .ok (.enter 26 ag) w := enters_of Tryz.func26 (by kernel_rfl) rfl
theorem ent_tells : ∀ ag w, (callFunc 27 ag).run Tryz.prog w = .ok (.enter 27 ag) w := enters_of Tryz.func27 (by kernel_rfl) rfl
end Go.Proofs.YtjjhfiddebmgcaaGreatDoor
namespace Go.Proofs.YtjjhfiddebmgcaaGreatDoor
open Go.ChangeShapes Go.WideShapes Go.ChangeAt Go.RowKit Go.Shelf Go.Maps

theorem ld_new (w : World) (t : Tk) (pc : Option Addr) (cc : Nat) : ∃ W : World, (∀ z : Array Value, z.size = 21 → (Instr.storeAt 43 (.pointer (some ⟨w.heap.size, 0, none⟩)) (tkV t pc cc)).run Tryz.prog (w.alloc (.cells z 43)) = .ok () W) ∧ TkC W w.heap.size 0 t pc cc ∧ Below w.heap.size w W ∧ W.heap.size = w.heap.size + 1 :=
  ⟨w.alloc (tkO t pc cc), fun z hz => st_new w z hz t pc cc, tk_of (heap_al _ _), bel1 _ _, World.size_alloc _ _⟩
theorem own_tk {w W : World} {g : Nat} {t : Tk} {pc : Option Addr} {cc : Nat} (h : TkC w g 0 t pc cc) (hg : g < w.heap.size) (hb : Below w.heap.size w W) : TkC W g 0 t pc cc := h.below hg hb
theorem Dt.at {w : World} {c : Df} {f : Fm} {L : List Od} {x : Od} {xt t : Tk} {ids : List Int} {vi : Value} (h : Dt w c f L x xt t ids vi) {k : Nat} {u : Tk} (hu : f.toks[k]? = some u) : ∃ pc cc, TkC w c.g (c.o + k * 21) u pc cc ∧ URow w pc c.H u.cst ∧ u.cst.length ≤ cc ∧ TkOk u := by
  obtain ⟨g, o, pc, cc, e, _, h1, h2, h3, h4⟩ := h.tl.at hu
  cases e
  exact ⟨pc, cc, h1, h2, h3, h4⟩
/-- What every question reads: the State, the tokens, the one at the place. -/
structure D0 (w : World) (c : Df) (f : Fm) (t : Tk) (vo vi : Value) : Prop where
  ds : DsH w c.B f (some ⟨c.g, c.o, none⟩) c.cp vo vi
  tl : TkL w (some ⟨c.g, c.o, none⟩) c.H f.toks
  ht : f.toks[c.i]? = some t
  lg : c.g < w.heap.size
  sz : c.H ≤ w.heap.size
section
variable {w w' : World} {c : Df} {f : Fm} {t : Tk} {vo vi : Value}
theorem D0.ll (h : D0 w c f t vo vi) : f.toks.length ≤ 733007751850 := by have := h.tl.len; omega
theorem D0.il (h : D0 w c f t vo vi) : c.i < f.toks.length := (List.getElem?_eq_some_iff.1 h.ht).1
theorem D0.below (h : D0 w c f t vo vi) (hb : Below w.heap.size w w') : D0 w' c f t vo vi :=
  ⟨h.ds.same (hb.block _ h.ds.lt), h.tl.below (hb.mono h.sz), h.ht, Nat.lt_of_lt_of_le h.lg hb.size, Nat.le_trans h.sz hb.size⟩
theorem D0.at (h : D0 w c f t vo vi) {k : Nat} {u : Tk} (hu : f.toks[k]? = some u) : ∃ pc cc, TkC w c.g (c.o + k * 21) u pc cc ∧ URow w pc w.heap.size u.cst ∧ u.cst.length ≤ cc ∧ TkOk u := by
  obtain ⟨g, o, pc, cc, e, _, h1, h2, h3, h4⟩ := h.tl.at hu
  cases e
  exact ⟨pc, cc, h1, h2.mono h.sz, h3, h4⟩
theorem D0.tk (h : D0 w c f t vo vi) : ∃ pc cc, TkC w c.g (c.o + c.i * 21) t pc cc ∧ URow w pc w.heap.size t.cst ∧ t.cst.length ≤ cc ∧ TkOk t := h.at h.ht
theorem Dt.d0 {L : List Od} {x : Od} {xt : Tk} {ids : List Int} (h : Dt w c f L x xt t ids vi) : D0 w c f t (.slice (some ⟨c.go, 0, none⟩) (L.length + 1) c.cap) vi := ⟨h.ds, h.tl, h.ht, h.lg, h.sz⟩
end
theorem bgO_i64 {op : Int} (h : bgO op = true) : IntKind.i64.wrap (op + 1) = op + 1 := by
  unfold bgO at h
  have := decT h
  rw [IntKind.wrap_i64]
  omega
/-- A load of something great, in a region that draws its order. -/
theorem lx_ld {P : Program} {ops : Array Oper} {C : World → Prop} {Q : Exit → Act → World → Prop} {d : Option Tmp} {t ty : TypeId} {x : Operand} {ps : String} {af : Array Edge} {gd : Option (Nat × Bool)} {r : List Oper} {a : Act} {w : World} {p v : Value}
    (hl : ∀ W, C W → (Instr.loadAt t p).run P W = .ok v W) (hx : a.eval x = p) (hw : Region.wanted ⟨d, .load t x, ty, ps, af, gd⟩ (yielded ops a.tmps) = true) (h : Lx P ops C Q r (a.put d v) w) : Lx P ops C Q (⟨d, .load t x, ty, ps, af, gd⟩ :: r) a w :=
  lx_read hw rfl fun K hK => ⟨v, fun W hW => by
    unfold Oper.quietAt execOp
    simp only [hx, hl W hW, Sem.run_bind, Result.andThen_ok, Sem.run_pure]
    exact ⟨rfl, rfl⟩, hK _ h⟩
/-- A store of something great, there. -/
theorem lx_st {P : Program} {ops : Array Oper} {C : World → Prop} {Q : Exit → Act → World → Prop} {d : Option Tmp} {t ty : TypeId} {x y : Operand} {ps : String} {af : Array Edge} {gd : Option (Nat × Bool)} {r : List Oper} {a : Act} {w w' : World} {p v : Value}
    (hr : (Instr.storeAt t p v).run P w = .ok () w') (hC : C w') (hx : a.eval x = p) (hy : a.eval y = v) (hw : Region.wanted ⟨d, .store t x y, ty, ps, af, gd⟩ (yielded ops a.tmps) = true) (h : Lx P ops C Q r (a.put d undef) w') : Lx P ops C Q (⟨d, .store t x y, ty, ps, af, gd⟩ :: r) a w :=
  lx_act hw rfl fun K hK => by
    unfold Oper.wp execOp
    simp only [hx, hy, hr, Sem.run_bind, Result.andThen_ok]
    exact hK _ _ hC h
/-- The worlds behind wr in which nothing of it changed, for regions that take tokens. -/
theorem clsT (wr : World) : ∃ p : World → Prop, p wr.drew ∧ (∀ W, p W → Below wr.heap.size wr W) ∧ (∀ W, Below wr.heap.size wr W → p W) ∧ Nonempty (CW p) ∧ (∀ (g o : Nat), g < wr.heap.size → ∀ θ : CW p, θ.w.cell? ⟨g, o, none⟩ = wr.cell? ⟨g, o, none⟩) ∧
    (∀ (g o : Nat) (t : Tk) (pc : Option Addr) (cc : Nat), g < wr.heap.size → TkC wr g o t pc cc → ∀ W, (∃ θ : CW p, W = θ.w) → (Instr.loadAt 43 (.pointer (some ⟨g, o, none⟩))).run Tryz.prog W = .ok (tkV t pc cc) W) ∧
    (∀ (f : FuncId) (ag : Array Value) (v : Value), (∀ W, Below wr.heap.size wr W → Calls Tryz.prog f ag W fun e w' => e = .returned v ∧ Below W.heap.size W w') → ∀ W, p W → Calls Tryz.prog f ag W fun e w' => e = .returned v ∧ p w') :=
  ⟨Below wr.heap.size wr, drw (Below.refl _ _), fun _ h => h, fun _ h => h, ⟨⟨_, Below.refl _ _⟩⟩, fun g o hg θ => θ.h.cell (p := ⟨g, o, none⟩) hg, fun g o t pc cc hg h => by rintro _ ⟨θ, rfl⟩; exact (h.below hg θ.h).load, fun _ _ _ h => callB (Nat.le_refl _) h⟩
/-- One that is open, as a value. -/
abbrev odV (x : Od) : Value := .agg #[.int .i64 (x.at_ : Int), .int .i64 x.stg, .int .i64 x.en, .int .i64 x.snc, .int .i64 x.row]
theorem infoOd : (Tryz.prog.info? 59).map (·.size) = some 5 := by kernel_rfl
theorem odC_one (x : Od) : ∀ u ∈ odC x, u.oneCell' = true := by
  intro u hu
  simp only [odC, List.mem_cons, List.not_mem_nil, or_false] at hu
  rcases hu with rfl | rfl | rfl | rfl | rfl <;> rfl
theorem od_new (w : World) (x : Od) : ∃ W : World, (∀ z : Array Value, z.size = 5 → (Instr.storeAt 59 (.pointer (some ⟨w.heap.size, 0, none⟩)) (odV x)).run Tryz.prog (w.alloc (.cells z 59)) = .ok () W) ∧ OdC W w.heap.size 0 x ∧ Below w.heap.size w W ∧ W.heap.size = w.heap.size + 1 :=
  ⟨w.alloc (.cells (odC x).toArray 59), fun z hz => run_storeAt_new w 59 z (odC x).toArray infoOd hz (all_oneCell_toArray (odC_one x)),
    have hh := fun k => cell_at (heap_al w (.cells (odC x).toArray 59)) k
    ⟨hh 0, hh 1, hh 2, hh 3, hh 4⟩, bel1 _ _, World.size_alloc _ _⟩
end Go.Proofs.YtjjhfiddebmgcaaGreatDoor
namespace Go.Proofs.YtjjhfiddebmgcaaGreatDoor
open Go.ChangeShapes Go.WideShapes Go.ChangeAt Go.RowKit
open J

theorem ent_sameToken12 : ∀ ag w, (callFunc 24 ag).run Tryz.prog w = .ok (.enter 24 ag) w := enters_of Tryz.func24 (by kernel_rfl) rfl
set_option maxRecDepth 20000 in
set_option maxHeartbeats 4000000 in
theorem sameForm_eq (f : Fm) (pa pb : Option Addr) (ca cb : Nat) (w : World) (ha : TkL w pa w.heap.size f.toks) (hb : TkL w pb w.heap.size f.toks) :
    Calls Tryz.prog 15 #[fmV f pa ca, fmV f pb cb] w fun r w' => r = .returned (.bool true) ∧ Below w.heap.size w w' := by
  have hA := fm_of (two_1 w (fmO f pa ca) (fmO f pb cb))
  have hC := fm_of (two_2 w (fmO f pa ca) (fmO f pb cb))
  have HB : Hid (Below w.heap.size w ((w.alloc (fmO f pa ca)).alloc (fmO f pb cb))) := ⟨two_b w _ _⟩
  have HS : Hid (w.heap.size + 1 < ((w.alloc (fmO f pa ca)).alloc (fmO f pb cb)).heap.size) := ⟨by simp⟩
  replace ha := (ha.below HB.out).mono HB.out.size
  replace hb := (hb.below HB.out).mono HB.out.size
  generalize hW : (w.alloc (fmO f pa ca)).alloc (fmO f pb cb) = W at hA hC HB HS ha hb
  simp only [fmO] at hW
  have x0 : W.cell? ⟨w.heap.size, 0, none⟩ = some (.int .i64 f.ord) := hA.c0
  have x1 : W.cell? ⟨w.heap.size, 1, none⟩ = some (.int .i64 f.sch) := hA.c1
  have x2 : W.cell? ⟨w.heap.size, 2, none⟩ = some (.int .i64 f.ver) := hA.c2
  have x3 : W.cell? ⟨w.heap.size, 3, none⟩ = some (.int .i64 f.hsz) := hA.c3
  have x4 : W.cell? ⟨w.heap.size, 4, none⟩ = some (.int .i64 f.hb.p) := hA.c4
  have x5 : W.cell? ⟨w.heap.size, 5, none⟩ = some (.int .i64 f.hb.o) := hA.c5
  have x6 : W.cell? ⟨w.heap.size, 6, none⟩ = some (.int .i64 f.ht.p) := hA.c6
  have x7 : W.cell? ⟨w.heap.size, 7, none⟩ = some (.int .i64 f.ht.o) := hA.c7
  have x8 : W.cell? ⟨w.heap.size, 8, none⟩ = some (.int .i64 f.hs.p) := hA.c8
  have x9 : W.cell? ⟨w.heap.size, 9, none⟩ = some (.int .i64 f.hs.o) := hA.c9
  have x10 : W.cell? ⟨w.heap.size, 10, none⟩ = some (.int .i64 f.hv.p) := hA.c10
  have x11 : W.cell? ⟨w.heap.size, 11, none⟩ = some (.int .i64 f.hv.o) := hA.c11
  have x12 : W.cell? ⟨w.heap.size, 12, none⟩ = some (.slice pa f.toks.length ca) := hA.c12
  have y0 : W.cell? ⟨w.heap.size + 1, 0, none⟩ = some (.int .i64 f.ord) := hC.c0
  have y1 : W.cell? ⟨w.heap.size + 1, 1, none⟩ = some (.int .i64 f.sch) := hC.c1
  have y2 : W.cell? ⟨w.heap.size + 1, 2, none⟩ = some (.int .i64 f.ver) := hC.c2
  have y3 : W.cell? ⟨w.heap.size + 1, 3, none⟩ = some (.int .i64 f.hsz) := hC.c3
  have y4 : W.cell? ⟨w.heap.size + 1, 4, none⟩ = some (.int .i64 f.hb.p) := hC.c4
  have y5 : W.cell? ⟨w.heap.size + 1, 5, none⟩ = some (.int .i64 f.hb.o) := hC.c5
  have y6 : W.cell? ⟨w.heap.size + 1, 6, none⟩ = some (.int .i64 f.ht.p) := hC.c6
  have y7 : W.cell? ⟨w.heap.size + 1, 7, none⟩ = some (.int .i64 f.ht.o) := hC.c7
  have y8 : W.cell? ⟨w.heap.size + 1, 8, none⟩ = some (.int .i64 f.hs.p) := hC.c8
  have y9 : W.cell? ⟨w.heap.size + 1, 9, none⟩ = some (.int .i64 f.hs.o) := hC.c9
  have y10 : W.cell? ⟨w.heap.size + 1, 10, none⟩ = some (.int .i64 f.hv.p) := hC.c10
  have y11 : W.cell? ⟨w.heap.size + 1, 11, none⟩ = some (.int .i64 f.hv.o) := hC.c11
  have y12 : W.cell? ⟨w.heap.size + 1, 12, none⟩ = some (.slice pb f.toks.length cb) := hC.c12
  replace hA : Hid (FmC W w.heap.size 0 f pa ca) := ⟨hA⟩
  replace hC : Hid (FmC W (w.heap.size + 1) 0 f pb cb) := ⟨hC⟩
  have hll := ha.len
  go_enter Tryz.func15, Tryz.ntmps15
  go_wp2_with fail
  clear x0 y0 x1 y1 x2 y2 x3 y3 x4 y4 x5 y5 x6 y6 x7 y7 x8 y8 x9 y9 x10 y10 x11 y11 hW
  go_loopw [5] (fun i wr => ∃ j : Nat, j ≤ f.toks.length ∧ i = .int .i64 j ∧ Below W.heap.size W wr) (fun i _ => f.toks.length - (RowKit.intOf i).toNat)
  case atStart => exact ⟨0, Nat.zero_le _, rfl, Below.refl _ _⟩
  case round =>
    clear x12 y12
    obtain ⟨j, hj, rfl, hB⟩ := hrel
    have kA := hA.out.below (Nat.lt_of_succ_lt HS.out) hB
    have kC := hC.out.below HS.out hB
    have x12 : wr.cell? ⟨w.heap.size, 12, none⟩ = some (.slice pa f.toks.length ca) := kA.c12
    have y12 : wr.cell? ⟨w.heap.size + 1, 12, none⟩ = some (.slice pb f.toks.length cb) := kC.c12
    by_cases hlt : j < f.toks.length
    · obtain ⟨a, hx⟩ : ∃ a, f.toks[j]? = some a := ⟨f.toks[j], List.getElem?_eq_getElem hlt⟩
      obtain ⟨g1, o1, p1, c1, rfl, hg1, hT, hT1, hT2, hTo⟩ := (ha.below hB).at hx
      obtain ⟨g2, o2, p2, c2, rfl, hg2, hU, hU1, hU2, hUo⟩ := (hb.below hB).at hx
      have hlti : (j : Int) < f.toks.length := by omega
      have hsz := hB.size
      obtain ⟨p, p0, pB, hN, f12, g12, lA, lC, cS⟩ : ∃ p : World → Prop, p wr.drew ∧ (∀ W', p W' → Below W.heap.size W W') ∧ Nonempty (CW p) ∧
          (∀ θ : CW p, θ.w.cell? ⟨w.heap.size, 12, none⟩ = some (.slice (some ⟨g1, o1, none⟩) f.toks.length ca)) ∧
          (∀ θ : CW p, θ.w.cell? ⟨w.heap.size + 1, 12, none⟩ = some (.slice (some ⟨g2, o2, none⟩) f.toks.length cb)) ∧
          (∀ W', (∃ θ : CW p, W' = θ.w) → (Instr.loadAt 43 (.pointer (some ⟨g1, o1 + j * 21, none⟩))).run Tryz.prog W' = .ok (tkV a p1 c1) W') ∧
          (∀ W', (∃ θ : CW p, W' = θ.w) → (Instr.loadAt 43 (.pointer (some ⟨g2, o2 + j * 21, none⟩))).run Tryz.prog W' = .ok (tkV a p2 c2) W') ∧
          (∀ W', p W' → Calls Tryz.prog 24 #[tkV a p1 c1, tkV a p2 c2] W' fun e w' => e = .returned (.bool true) ∧ p w') :=
        ⟨Below wr.heap.size wr, (Below.refl _ _).drew, fun _ h => hB.trans (h.mono hsz), ⟨⟨_, Below.refl _ _⟩⟩,
          fun θ => (θ.h.cell (p := ⟨w.heap.size, 12, none⟩) (Nat.lt_of_lt_of_le (Nat.lt_of_succ_lt HS.out) hsz)).trans x12,
          fun θ => (θ.h.cell (p := ⟨w.heap.size + 1, 12, none⟩) (Nat.lt_of_lt_of_le HS.out hsz)).trans y12,
          (by rintro _ ⟨θ, rfl⟩; exact (hT.below (Nat.lt_of_lt_of_le hg1 hsz) θ.h).load),
          (by rintro _ ⟨θ, rfl⟩; exact (hU.below (Nat.lt_of_lt_of_le hg2 hsz) θ.h).load),
          fun W' h => (sameToken_eq a p1 p2 c1 c2 W' ((hT1.below (h.mono hsz)).mono (Nat.le_trans hsz h.size)) ((hU1.below (h.mono hsz)).mono (Nat.le_trans hsz h.size)) hTo.cst).mono fun e w' hh => ⟨hh.1, h.trans (hh.2.mono h.size)⟩⟩
      clear hx hT hU hT1 hU1 hT2 hU2 hTo hUo ha hb kA kC
      go_wp2_with fail
      refine wp_region_lp p (by kernel_rfl) (by kernel_rfl) (fun _ _ d _ _ h => by cases d <;> exact h) p0 fun W' hp => ?_
      clear x12 y12
      repeat (first
        | (guard_target =~ Lx _ _ _ _ (Oper.mk _ (Op.load 43 _) _ _ _ _ :: _) _ _; (first | refine lx_ld lA rfl rfl ?_ | refine lx_ld lC rfl rfl ?_); simp only [pts])
        | (refine lx_one rfl ?_; (first | go_big_quiet_skip | (go_big_quiet_want; go_big_quiet_op; go_big_quiet_on)); refine wpQuiet_nil ?_)
        | (refine lx_p2 ent_sameToken12 cS hp rfl rfl (by rfl) ?_; clear hp; intro W' hp; simp only [pts])
        | (refine lx_skip (by rfl) ?_; simp only [pts]))
      refine lx_done ?_
      have HP : Hid (Below W.heap.size W W') := ⟨pB _ hp⟩
      clear pB cS lA lC f12 g12 hN p0
      go_wp2_with fail
      go_roundw
      case rel => exact ⟨j + 1, by omega, by go_num, HP.out⟩
      case measure => simp [RowKit.intOf]; omega
    · obtain rfl : j = f.toks.length := by omega
      clear kA kC
      go_wp2_with fail
      go_ret
      exact ⟨rfl, HB.out.trans (hB.mono HB.out.size)⟩
set_option maxRecDepth 20000 in
set_option maxHeartbeats 4000000 in
theorem untouched12 (f : Fm) (g cap : Nat) (ps : List TkP) (base : Nat) (pb : Option Addr) (cb : Nat) (w : World) (hc : CopS spS w base g cap ps) (hp : ps.map TkP.t = f.toks) (hb : TkL w pb w.heap.size f.toks) :
    Calls Tryz.prog 9 #[fmV f (some ⟨g, 0, none⟩) cap, fmV f pb cb] w fun r w' => r = .returned (.bool true) ∧ Below w.heap.size w w' := by
  have ha : TkL w (some ⟨g, 0, none⟩) w.heap.size f.toks := ⟨hp ▸ hc.trow, hb.len, hb.ok⟩
  have hA := fm_of (two_1 w (fmO f (some ⟨g, 0, none⟩) cap) (fmO f pb cb))
  have hC := fm_of (two_2 w (fmO f (some ⟨g, 0, none⟩) cap) (fmO f pb cb))
  have HB : Hid (Below w.heap.size w ((w.alloc (fmO f (some ⟨g, 0, none⟩) cap)).alloc (fmO f pb cb))) := ⟨two_b w _ _⟩
  have HS : Hid (w.heap.size + 1 < ((w.alloc (fmO f (some ⟨g, 0, none⟩) cap)).alloc (fmO f pb cb)).heap.size) := ⟨by simp⟩
  have hgl := hc.lt.2
  replace ha := (ha.below HB.out).mono HB.out.size
  replace hb := (hb.below HB.out).mono HB.out.size
  replace hc := hc.below HB.out
  have c1 := sameForm_eq f (some ⟨g, 0, none⟩) pb cap cb _ ha hb
  generalize hW : (w.alloc (fmO f (some ⟨g, 0, none⟩) cap)).alloc (fmO f pb cb) = W at hA hC HB HS ha hb hc c1
  simp only [fmO] at hW
  have x0 : W.cell? ⟨w.heap.size, 0, none⟩ = some (.int .i64 f.ord) := hA.c0
  have x1 : W.cell? ⟨w.heap.size, 1, none⟩ = some (.int .i64 f.sch) := hA.c1
  have x2 : W.cell? ⟨w.heap.size, 2, none⟩ = some (.int .i64 f.ver) := hA.c2
  have x3 : W.cell? ⟨w.heap.size, 3, none⟩ = some (.int .i64 f.hsz) := hA.c3
  have x4 : W.cell? ⟨w.heap.size, 4, none⟩ = some (.int .i64 f.hb.p) := hA.c4
  have x5 : W.cell? ⟨w.heap.size, 5, none⟩ = some (.int .i64 f.hb.o) := hA.c5
  have x6 : W.cell? ⟨w.heap.size, 6, none⟩ = some (.int .i64 f.ht.p) := hA.c6
  have x7 : W.cell? ⟨w.heap.size, 7, none⟩ = some (.int .i64 f.ht.o) := hA.c7
  have x8 : W.cell? ⟨w.heap.size, 8, none⟩ = some (.int .i64 f.hs.p) := hA.c8
  have x9 : W.cell? ⟨w.heap.size, 9, none⟩ = some (.int .i64 f.hs.o) := hA.c9
  have x10 : W.cell? ⟨w.heap.size, 10, none⟩ = some (.int .i64 f.hv.p) := hA.c10
  have x11 : W.cell? ⟨w.heap.size, 11, none⟩ = some (.int .i64 f.hv.o) := hA.c11
  have x12 : W.cell? ⟨w.heap.size, 12, none⟩ = some (.slice (some ⟨g, 0, none⟩) f.toks.length cap) := hA.c12
  have y0 : W.cell? ⟨w.heap.size + 1, 0, none⟩ = some (.int .i64 f.ord) := hC.c0
  have y1 : W.cell? ⟨w.heap.size + 1, 1, none⟩ = some (.int .i64 f.sch) := hC.c1
  have y2 : W.cell? ⟨w.heap.size + 1, 2, none⟩ = some (.int .i64 f.ver) := hC.c2
  have y3 : W.cell? ⟨w.heap.size + 1, 3, none⟩ = some (.int .i64 f.hsz) := hC.c3
  have y4 : W.cell? ⟨w.heap.size + 1, 4, none⟩ = some (.int .i64 f.hb.p) := hC.c4
  have y5 : W.cell? ⟨w.heap.size + 1, 5, none⟩ = some (.int .i64 f.hb.o) := hC.c5
  have y6 : W.cell? ⟨w.heap.size + 1, 6, none⟩ = some (.int .i64 f.ht.p) := hC.c6
  have y7 : W.cell? ⟨w.heap.size + 1, 7, none⟩ = some (.int .i64 f.ht.o) := hC.c7
  have y8 : W.cell? ⟨w.heap.size + 1, 8, none⟩ = some (.int .i64 f.hs.p) := hC.c8
  have y9 : W.cell? ⟨w.heap.size + 1, 9, none⟩ = some (.int .i64 f.hs.o) := hC.c9
  have y10 : W.cell? ⟨w.heap.size + 1, 10, none⟩ = some (.int .i64 f.hv.p) := hC.c10
  have y11 : W.cell? ⟨w.heap.size + 1, 11, none⟩ = some (.int .i64 f.hv.o) := hC.c11
  have y12 : W.cell? ⟨w.heap.size + 1, 12, none⟩ = some (.slice pb f.toks.length cb) := hC.c12
  replace hA : Hid (FmC W w.heap.size 0 f (some ⟨g, 0, none⟩) cap) := ⟨hA⟩
  replace hC : Hid (FmC W (w.heap.size + 1) 0 f pb cb) := ⟨hC⟩
  have hll := ha.len
  have hpl : ps.length = f.toks.length := by rw [← hp, List.length_map]
  have hroom : (f.toks.length : Int) + 1 ≤ cap := by have := hc.room; omega
  have hw1 : IntKind.i64.wrap ((f.toks.length : Int) + 1) = (f.toks.length : Int) + 1 := by rw [IntKind.wrap_i64]; omega
  have K : Hid (∀ W', Below W.heap.size W W' → W'.cell? ⟨w.heap.size, 12, none⟩ = some (.slice (some ⟨g, 0, none⟩) f.toks.length cap) ∧ W'.cell? ⟨w.heap.size + 1, 12, none⟩ = some (.slice pb f.toks.length cb) ∧ W'.cell? ⟨g, f.toks.length * 21 + 1, none⟩ = some (.string spS)) := ⟨fun W' h =>
    ⟨(hA.out.below (Nat.lt_of_succ_lt HS.out) h).c12, (hC.out.below HS.out h).c12, by rw [← hpl]; exact (hc.below h).spare.c1⟩⟩
  go_enter Tryz.func9, Tryz.ntmps9
  go_wp2_with (go_at_call 15; refine c1.mono ?_; rintro _ w1 ⟨rfl, hb1⟩; obtain ⟨k1, k2, k3⟩ := K.out w1 hb1; replace hb1 : Hid _ := ⟨hb1⟩)
  clear x0 y0 x1 y1 x2 y2 x3 y3 x4 y4 x5 y5 x6 y6 x7 y7 x8 y8 x9 y9 x10 y10 x11 y11 x12 y12 hW k1 k2 k3 c1
  go_loopw [7] (fun i wr => ∃ j : Nat, j ≤ f.toks.length ∧ i = .int .i64 j ∧ wr = w1) (fun i _ => f.toks.length - (RowKit.intOf i).toNat)
  case atStart => exact ⟨0, Nat.zero_le _, rfl, rfl⟩
  case round =>
    obtain ⟨j, hj, rfl, rfl⟩ := hrel
    obtain ⟨k1, k2, -⟩ := K.out wr hb1.out
    by_cases hlt : j < f.toks.length
    · obtain ⟨x, hx⟩ : ∃ x, ps[j]? = some x := ⟨ps[j]'(by omega), List.getElem?_eq_getElem (by omega)⟩
      have hxt : f.toks[j]? = some x.t := by rw [← hp, List.getElem?_map, hx]; rfl
      obtain ⟨g2, o2, p2, c2, rfl, hg2, hU, hU1, hU2, hUo⟩ := (hb.below hb1.out).at hxt
      have hT := (hc.below hb1.out).tk hx
      have hG := ((hc.below hb1.out).good x (List.mem_of_getElem? hx)).1
      have u12 := hU.c12
      have t12 := hT.c12
      have hlti : (j : Int) < f.toks.length := by omega
      have hrm := hG.room
      have hcst := hUo.cst
      have h77 : wr.cell? ⟨x.g, x.t.cst.length, none⟩ = some (.int .u64 77) := by
        have hc7 := World.ownsRow.cells hG (g := x.g) rfl x.t.cst.length (.int .u64 77) (by rw [List.getElem?_map, List.getElem?_append_right (Nat.le_refl _), Nat.sub_self]; rfl)
        rwa [addr0] at hc7
      have hw2 : IntKind.i64.wrap ((x.t.cst.length : Int) + 1) = (x.t.cst.length : Int) + 1 := by rw [IntKind.wrap_i64]; omega
      have hci : (x.t.cst.length : Int) + 1 ≤ x.c := by omega
      clear hx hxt hU hT hG hU1 hU2 hUo
      go_wp2_with fail
      go_roundw
      case rel => exact ⟨j + 1, by omega, by go_num, trivial⟩
      case measure => simp [RowKit.intOf]; omega
    · obtain rfl : j = f.toks.length := by omega
      go_wp2_with fail
      go_ret
      exact ⟨rfl, HB.out.trans (hb1.out.mono HB.out.size)⟩
end Go.Proofs.YtjjhfiddebmgcaaGreatDoor

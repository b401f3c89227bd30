/- OsI, OsJ, OsK, IDa, IDc. -/
import Derived.Test.YtepnmfgbflogkaaDoorF13
import Derived.Ground.MpProg
import Derived.Shelf.Pu.Clone
import Derived.Test.YtepnmfgbflogkaaDoorF05
import Derived.Deep.MidRow
import Derived.Deep.WholeRow
namespace Go.Proofs.YtepnmfgbflogkaaDoor
open Go.ChangeShapes Go.WideShapes Go.ChangeAt Go.RowKit Go.Shelf Go.Maps

theorem okind_any (op : Int) (w : World) : Calls Tryd.prog 25 #[.int .i64 op] w fun r w' => r = .returned (.int .i64 (knd op)) ∧ w' = w := by
  unfold knd
  by_cases h : op = 6
  · have b1 : (op == 6) = true := by simp [h]
    rw [if_pos h]
    clear h
    go_enter Tryd.func25, Tryd.ntmps25
    go_wp2_with fail
    go_ret
    exact ⟨rfl, rfl⟩
  · have b1 : (op == 6) = false := beq_eq_false_iff_ne.2 h
    rw [if_neg h]
    clear h
    go_enter Tryd.func25, Tryd.ntmps25
    go_wp2_with fail
    go_ret
    exact ⟨rfl, rfl⟩
theorem greatest_any (p : Int) (w : World) : Calls Tryd.prog 27 #[.int .i64 p] w fun r w' => r = .returned (.int .u64 (gmax p)) ∧ w' = w := by
  unfold gmax
  by_cases h : p = 5
  · have b1 : (p == 5) = true := by simp [h]
    rw [if_pos h]
    clear h
    go_enter Tryd.func27, Tryd.ntmps27
    go_wp2_with fail
    go_ret
    exact ⟨rfl, rfl⟩
  · have b1 : (p == 5) = false := beq_eq_false_iff_ne.2 h
    rw [if_neg h]
    by_cases h2 : p = 6
    · have b2 : (p == 6) = true := by simp [h2]
      rw [if_pos h2]
      clear h h2
      go_enter Tryd.func27, Tryd.ntmps27
      go_wp2_with fail
      go_ret
      exact ⟨rfl, rfl⟩
    · have b2 : (p == 6) = false := beq_eq_false_iff_ne.2 h2
      rw [if_neg h2]
      clear h h2
      go_enter Tryd.func27, Tryd.ntmps27
      go_wp2_with fail
      go_ret
      exact ⟨rfl, rfl⟩
theorem called_of {l : List Tk} {p n : Nat} {t : Tk} (ht : l[p]? = some t) (hn : t.pair = (n : Int)) (h2 : ¬ t.pres = 2) {b : Bool} (h : (lvF l (p + 1) (n - (p + 1))).isEmpty = !b) : calledB l p = b := by
  unfold calledB
  simp only [ht, hn, Int.toNat_natCast, h]
  simp [h2]
set_option maxRecDepth 20000 in
set_option maxHeartbeats 4000000 in
theorem isCalled_any (l : List Tk) (p n : Nat) (t : Tk) (pp : Option Addr) (cp : Nat) (w : World) (H : Nat) (tl : TkL w pp H l) (ht : l[p]? = some t) (hn : t.pair = (n : Int)) (hpn : p < n) (hnl : n < l.length) :
    Calls Tryd.prog 28 #[.slice pp l.length cp, .int .i64 (p : Int)] w fun r w' => r = .returned (.bool (calledB l p)) ∧ w' = w := by
  obtain ⟨g, o, pc, cc, rfl, hg, hT, _⟩ := tl.at ht
  have t8 := hT.c8
  have t20 := hT.c20
  rw [hn] at t20
  have hpl : (p : Int) < l.length := by omega
  have hll : l.length ≤ 733007751850 := by have := tl.len; omega
  have hTT : Hid (∀ (k : Nat) (u : Tk), l[k]? = some u → w.cell? ⟨g, o + k * 21, none⟩ = some (.int .i64 u.op) ∧ w.cell? ⟨g, o + k * 21 + 8, none⟩ = some (.int .i64 u.pres)) := ⟨fun k u hu => by
    obtain ⟨g', o', pc, cc, e, _, h1, _⟩ := tl.at hu
    cases e
    exact ⟨h1.c0, h1.c8⟩⟩
  by_cases h2 : t.pres = 2
  · have b1 : (t.pres == 2) = true := by simp [h2]
    have hc : calledB l p = false := by unfold calledB; simp only [ht]; simp [h2]
    rw [hc]
    clear hT h2 hc ht tl
    go_enter Tryd.func28, Tryd.ntmps28
    go_wp2_with fail
    go_ret
    exact ⟨rfl, rfl⟩
  · have b1 : (t.pres == 2) = false := beq_eq_false_iff_ne.2 h2
    have hcl : Hid (∀ b, (lvF l (p + 1) (n - (p + 1))).isEmpty = (!b) → calledB l p = b) := ⟨fun b hb => called_of ht hn h2 hb⟩
    generalize calledB l p = rv at hcl ⊢
    clear hT h2 ht tl
    go_enter Tryd.func28, Tryd.ntmps28
    go_wp2_with fail
    go_loopw [5] (fun q wr => ∃ k : Nat, p + 1 ≤ k ∧ k ≤ n ∧ q = .int .i64 (k : Int) ∧ wr = w ∧ Hid (lvF l (p + 1) (n - (p + 1)) = lvF l k (n - k))) (fun q _ => n - (RowKit.intOf q).toNat)
    case atStart => exact ⟨p + 1, Nat.le_refl _, by omega, by go_num, rfl, ⟨rfl⟩⟩
    case round =>
      obtain ⟨k, hk1, hk2, rfl, rfl, hC⟩ := hrel
      by_cases hlt : k < n
      · have hlti : (k : Int) < n := by omega
        have hkl : (k : Int) < l.length := by omega
        obtain ⟨u, hu⟩ : ∃ u, l[k]? = some u := ⟨l[k]'(by omega), List.getElem?_eq_getElem (by omega)⟩
        obtain ⟨u0, u8⟩ := hTT.out k u hu
        have hC' := hC.out
        rw [show n - k = (n - (k + 1)) + 1 by omega] at hC'
        have hw2 : IntKind.i64.wrap ((k : Int) + 1) = (k : Int) + 1 := by rw [IntKind.wrap_i64]; omega
        clear hC
        cases hlv : lvB u with
        | true =>
          rw [lvF_yes hu hlv] at hC'
          have hlv' : u.op = 14 ∧ ¬ u.pres = 2 := of_decide_eq_true hlv
          have c2 : (u.op == 14) = true := by simp [hlv'.1]
          have c3 : (u.pres == 2) = false := beq_eq_false_iff_ne.2 hlv'.2
          have c3' : (u.pres != 2) = true := by simp [hlv'.2]
          obtain rfl : rv = true := hcl.out true (by rw [hC']; rfl)
          clear hC' hlv hlv' hcl hTT hu
          go_wp2_with fail
          go_ret
          exact ⟨rfl, rfl⟩
        | false =>
          rw [lvF_no hu hlv] at hC'
          have hC2 : Hid (lvF l (p + 1) (n - (p + 1)) = lvF l (k + 1) (n - (k + 1))) := ⟨hC'⟩
          have hlv' : ¬ (u.op = 14 ∧ ¬ u.pres = 2) := of_decide_eq_false hlv
          clear hC' hlv hu
          by_cases h14 : u.op = 14
          · have c2 : (u.op == 14) = true := by simp [h14]
            have c3 : (u.pres == 2) = true := by simp; omega
            have c3' : (u.pres != 2) = false := by simp; omega
            clear hlv' h14
            go_wp2_with fail
            go_roundw
            case rel => exact ⟨k + 1, by omega, by omega, by go_num, by first | rfl | trivial, hC2⟩
            case measure => simp [RowKit.intOf]; omega
          · have c2 : (u.op == 14) = false := beq_eq_false_iff_ne.2 h14
            clear hlv' h14
            go_wp2_with fail
            go_roundw
            case rel => exact ⟨k + 1, by omega, by omega, by go_num, by first | rfl | trivial, hC2⟩
            case measure => simp [RowKit.intOf]; omega
      · obtain rfl : k = n := by omega
        have hC' := hC.out
        rw [Nat.sub_self, lvF] at hC'
        obtain rfl : rv = false := hcl.out false (by rw [hC']; rfl)
        have b2 : decide ((k : Int) < k) = false := by simp
        clear hC hC' hcl hTT
        go_wp2_with fail
        go_ret
        exact ⟨rfl, rfl⟩
end Go.Proofs.YtepnmfgbflogkaaDoor
namespace Go.Proofs
open Go.Shelf
def Tryd.laysPu25_ren : Go.Shelf.Ren := ⟨fun | 25 => 39 | n => n, fun | 9 => 9 | 3 => 3 | 4 => 4 | 37 => 122 | 0 => 0 | 47 => 123 | 5 => 5 | n => n, fun | n => n⟩
theorem Tryd.laysPu25 : Go.Proofs.LaysPu.n25 Tryd.prog Tryd.laysPu25_ren := {
  mixed := by kernel_rfl
  f25 := Tryd.func39.trans (congrArg some (by kernel_rfl))
  t0 := Tryd.underlying0
  a0 := Tryd.isAgg0
  z0 := Tryd.sizeOf0
  v0 := Tryd.zeroValue0
  i0 := by kernel_rfl
  t3 := Tryd.underlying3
  a3 := Tryd.isAgg3
  z3 := Tryd.sizeOf3
  v3 := Tryd.zeroValue3
  i3 := by kernel_rfl
  t4 := Tryd.underlying4
  a4 := Tryd.isAgg4
  z4 := Tryd.sizeOf4
  v4 := Tryd.zeroValue4
  i4 := by kernel_rfl
  t5 := Tryd.underlying5
  a5 := Tryd.isAgg5
  z5 := Tryd.sizeOf5
  v5 := Tryd.zeroValue5
  i5 := by kernel_rfl
  t9 := Tryd.underlying9
  a9 := Tryd.isAgg9
  z9 := Tryd.sizeOf9
  v9 := Tryd.zeroValue9
  i9 := by kernel_rfl
  t37 := Tryd.underlying122
  a37 := Tryd.isAgg122
  z37 := Tryd.sizeOf122
  v37 := Tryd.zeroValue122
  i37 := by kernel_rfl
  t47 := Tryd.underlying123
  a47 := Tryd.isAgg123
  z47 := Tryd.sizeOf123
  v47 := Tryd.zeroValue123
  i47 := by kernel_rfl }
end Go.Proofs
namespace Go.Proofs.YtepnmfgbflogkaaDoor
open Go.ChangeShapes Go.WideShapes Go.ChangeAt Go.RowKit Go.Shelf Go.Maps

theorem strClone0 (s : ByteArray) (w : World) (hs : s.size ≤ 281474976710656) : Calls Tryd.prog 39 #[.string s] w fun e w' => e = .returned (.string s) ∧ Below w.heap.size w w' :=
  AnyPu.stringslite_Clone Tryd.laysPu25 s w hs
theorem strClone (s : ByteArray) (w : World) (hs : s.size ≤ 281474976710656) : Calls Tryd.prog 26 #[.string s] w fun e w' => e = .returned (.string s) ∧ Below w.heap.size w w' := by
  have hcon := fun w => strClone0 s w hs
  go_enter Tryd.func26, Tryd.ntmps26
  go_wp2_with (go_at_call 39; refine (hcon _).mono ?_; rintro e w' ⟨rfl, hB⟩)
  go_ret
  exact ⟨rfl, hB⟩
end Go.Proofs.YtepnmfgbflogkaaDoor
namespace Go.Proofs.YtepnmfgbflogkaaDoor
open Go.ChangeShapes Go.WideShapes Go.ChangeAt Go.RowKit Go.Shelf Go.Maps

/-- A message, group or data of a form that is one. -/
structure Pb (l : List Tk) (p n : Nat) (t : Tk) (ks : List Nat) : Prop where
  bg : Bgn l p n t ks
  kop : ∀ k ∈ ks, ∀ u, l[k]? = some u → (u.op = 2 ∨ u.op = 4 ∨ u.op = 6) ∧ ∃ m : Nat, u.pair = (m : Int) ∧ k < m ∧ m < l.length
theorem data_ops {f : Fm} {b : Nat} {t : Tk} {ks : List Nat} (h : Took f b t ks) (ho : t.op = 6) {k : Nat} (hk : k ∈ ks) {u : Tk} (hu : f.toks[k]? = some u) : False := by
  obtain ⟨j, hj⟩ := List.getElem?_of_mem hk
  obtain ⟨x, o, ids, e1, e2, e3, e4, e5⟩ := h j k u hj hu
  obtain ⟨hm, _⟩ := inOk_in e4 e5
  unfold mayB at hm
  rw [e2, ho] at hm
  simp at hm
  rw [hm] at e5
  exact absurd e5 (by decide)
theorem pb_of {f : Fm} {p : Nat} {t : Tk} (hz : chkZ f = none) (ht : f.toks[p]? = some t) (ho : t.op = 0 ∨ t.op = 4 ∨ t.op = 6) : ∃ n ks, Pb f.toks p n t ks := by
  have hg : bgO t.op = true := by rcases ho with h | h | h <;> rw [h] <;> rfl
  obtain ⟨n, ks, h1, h2⟩ := bgn_took hz ht hg
  refine ⟨n, ks, h1, fun k hk u hu => ?_⟩
  have hop : u.op = 2 ∨ u.op = 4 ∨ u.op = 6 := by
    rcases ho with h | h | h
    · exact block_ops h2 (.inl h) hk hu
    · exact block_ops h2 (.inr h) hk hu
    · exact (data_ops h2 h hk hu).elim
  have hg2 : bgO u.op = true := by rcases hop with h | h | h <;> rw [h] <;> rfl
  obtain ⟨m, _, h3, _⟩ := bgn_took hz hu hg2
  exact ⟨hop, m, h3.en, h3.bn, h3.nl⟩
theorem chn_next {l : List Tk} {k n : Nat} {r : List Nat} (h : Chn l k (k :: r) n) (hr : ∀ j ∈ r, j < n) {u : Tk} {m : Nat} (hu : l[k]? = some u) (hm : u.pair = (m : Int)) : m < n ∧ Chn l (m + 1) r n := by
  obtain ⟨_, u', m', h1, h2, h3⟩ := h
  rw [hu] at h1
  cases h1
  rw [hm] at h2
  have h2 : m = m' := by omega
  subst h2
  refine ⟨?_, h3⟩
  cases r with
  | nil => have : m + 1 = n := h3; omega
  | cons k2 r2 =>
    have := h3.1
    have := hr k2 (List.mem_cons_self ..)
    omega
theorem chn_head {l : List Tk} {i n : Nat} {r : List Nat} (h : Chn l i r n) (hr : ∀ j ∈ r, j < n) (hi : i < n) : ∃ r', r = i :: r' := by
  cases r with
  | nil => have : i = n := h; omega
  | cons k r' => have := h.1; subst this; exact ⟨r', rfl⟩
theorem chn_end {l : List Tk} {n : Nat} {r : List Nat} (h : Chn l n r n) (hr : ∀ j ∈ r, j < n) : r = [] := by
  cases r with
  | nil => rfl
  | cons k r' => have := h.1; have := hr k (List.mem_cons_self ..); omega
def rowF (l : List Tk) (i : Nat) : Bool := !decide (opAt l i = 2)
def fldF (l : List Tk) (i : Nat) : Bool := decide (opAt l i = 2) && calledB l i
abbrev ptV (g : Nat) : Value := .pointer (some ⟨g, 0, none⟩)
theorem p_ap {W : World} {base : Nat} {v : Value} {al : List Nat} {g : Nat} {ad : Addr} (own : W.ownsRow base 66 1 v al.length (al.map ptV)) (hB : W.cell? (ad.add 0) = some (ptV g)) (hl : al.length + 1 ≤ 977343669134) (hb : base ≤ W.heap.size) :
    ∃ v' w', (∀ ty, (Builtin.append_ #[71, 71] ty #[v, .slice (some ad) 1 1]).run Tryd.prog W = .ok v' w') ∧ (w'.ownsRow base 66 1 v' (al ++ [g]).length ((al ++ [g]).map ptV) ∧ W.grownBy w' v.ownBlock ∧ (v'.ownBlock = v.ownBlock ∨ v'.ownBlock = some W.heap.size)) := by
  obtain ⟨i0, hi, hz, hs, hby⟩ := infoOf 66 (.pointer none) 1 8 (by kernel_rfl)
  have hr := fun ty => run_append_own_at (P := Tryd.prog) W base 71 ty 66 i0 _ 1 8 Tryd.underlying71 hi hz hs hby rfl (by decide) v al.length (al.map ptV) own ad 1 1 [ptV g] rfl (fun j u hu => by
    cases j with
    | zero => cases hu; exact hB
    | succ j => simp at hu) (fun u hu => by rw [List.mem_singleton.1 hu]; rfl) (by simp only [maxLen]; omega) (by omega) (by omega)
  obtain ⟨v', w', h1, h2, h3, _, h4⟩ := hr 0
  refine ⟨v', w', fun ty => ?_, by rw [List.length_append, List.map_append]; exact h2, h3, h4⟩
  have e : (Builtin.append_ #[71, 71] ty #[v, .slice (some ad) 1 1]) = (Builtin.append_ #[71, 71] 0 #[v, .slice (some ad) 1 1]) := rfl
  rw [e]
  exact h1
/-- A part under way: ks1 of what stands right inside has been seen. -/
structure PI (l : List Tk) (W : World) (lo S gp m p d : Nat) (ks1 gs : List Nat) (v : Value) : Prop where
  c : W.heap[gp]? = some (.cells #[.int .i64 (knd (opAt l p)), .string (nmAt l p), .int .i64 (p : Int), .int .u64 (gmax (bpAt l p)), .map (some m), v] 73)
  mp : ∃ k, k ≤ ks1.length ∧ SHas W m k (fun s => ∃ i ∈ ks1.filter (fldF l), nmAt l i = s)
  ow : W.ownsRow S 66 1 v gs.length (gs.map ptV)
  ln : gs.length = (ks1.filter (rowF l)).length
  ch : ∀ (j g' q : Nat), gs[j]? = some g' → (ks1.filter (rowF l))[j]? = some q → ∃ a b, S ≤ a ∧ b ≤ W.heap.size ∧ PtC l W a b d g' q ∧ ∀ r, v.ownBlock = some r → r < a ∨ b ≤ r
  g1 : lo ≤ gp ∧ gp < S
  m1 : lo ≤ m ∧ m < S
  gm : gp ≠ m
  sz : S ≤ W.heap.size
theorem PI.below {l : List Tk} {W W' : World} {lo S gp m p d : Nat} {ks1 gs : List Nat} {v : Value} (h : PI l W lo S gp m p d ks1 gs v) (hb : Below W.heap.size W W') : PI l W' lo S gp m p d ks1 gs v := by
  obtain ⟨k, hk, hS⟩ := h.mp
  have hs := hb.size
  have h1 := h.sz
  have h2 := h.g1
  have h3 := h.m1
  refine ⟨(hb.block gp (by omega)).trans h.c, ⟨k, hk, hS.same (hb.block m (by omega))⟩, own_keep h.ow hb, h.ln, fun j g' q e1 e2 => ?_, h.g1, h.m1, h.gm, by omega⟩
  obtain ⟨a, b, q1, q2, q3, q4⟩ := h.ch j g' q e1 e2
  exact ⟨a, b, q1, by omega, q3.same fun k _ hk => hb.block k (by omega), q4⟩
/-- A field that is called. -/
theorem PI.field {l : List Tk} {W W' : World} {lo S gp m p d : Nat} {ks1 gs : List Nat} {v : Value} {k : Nat} (h : PI l W lo S gp m p d ks1 gs v) (hf : fldF l k = true) (hr : rowF l k = false) (hg : W.grownBy W' (some m)) (hS : ∃ k', k' ≤ ks1.length + 1 ∧ SHas W' m k' (fun s => s = nmAt l k ∨ ∃ i ∈ ks1.filter (fldF l), nmAt l i = s)) : PI l W' lo S gp m p d (ks1 ++ [k]) gs v := by
  obtain ⟨k', hk', D, hD, hh⟩ := hS
  have h1 := h.sz
  have h2 := h.g1
  have h3 := h.m1
  have hb : ∀ j, j < W.heap.size → j ≠ m → W'.heap[j]? = W.heap[j]? := fun j hj hn => hg.block j hj (fun e => hn (Option.some.inj e))
  have hs := hg.size
  refine ⟨(hb gp (by omega) h.gm).trans h.c, ⟨k', by simpa using hk', D, hD, fun s hs => ?_⟩, own_keepP h.ow fun r hr => hb r (h.ow.lt r hr).2 (by have := (h.ow.lt r hr).1; omega), ?_, fun j g' q e1 e2 => ?_, h.g1, h.m1, h.gm, by omega⟩
  · rw [hh s hs, List.filter_append]
    simp only [List.filter_cons, hf, List.filter_nil, if_true, List.mem_append, List.mem_singleton]
    constructor
    · rintro (rfl | ⟨i, hi, e⟩)
      · exact ⟨k, .inr rfl, rfl⟩
      · exact ⟨i, .inl hi, e⟩
    · rintro ⟨i, hi | rfl, e⟩
      · exact .inr ⟨i, hi, e⟩
      · exact .inl e.symm
  · rw [List.filter_append]
    simp only [List.filter_cons, hr, List.filter_nil]
    simpa using h.ln
  · rw [List.filter_append] at e2
    simp only [List.filter_cons, hr, List.filter_nil] at e2
    obtain ⟨a, b, q1, q2, q3, q4⟩ := h.ch j g' q e1 (by simpa using e2)
    exact ⟨a, b, q1, by omega, q3.same fun k' _ hk' => hb k' (by omega) (by omega), q4⟩
/-- A field that isn't. -/
theorem PI.skip {l : List Tk} {W : World} {lo S gp m p d : Nat} {ks1 gs : List Nat} {v : Value} {k : Nat} (h : PI l W lo S gp m p d ks1 gs v) (hf : fldF l k = false) (hr : rowF l k = false) : PI l W lo S gp m p d (ks1 ++ [k]) gs v := by
  have e1 : (ks1 ++ [k]).filter (fldF l) = ks1.filter (fldF l) := by rw [List.filter_append]; simp [hf]
  have e2 : (ks1 ++ [k]).filter (rowF l) = ks1.filter (rowF l) := by rw [List.filter_append]; simp [hr]
  obtain ⟨k', hk', hS⟩ := h.mp
  refine ⟨h.c, ⟨k', by simp; omega, by rw [e1]; exact hS⟩, h.ow, by rw [e2]; exact h.ln, by rw [e2]; exact h.ch, h.g1, h.m1, h.gm, h.sz⟩
/-- A group or data: its part is made, its place is in the row. -/
theorem PI.row {l : List Tk} {W W1 W2 : World} {lo S gp m p d : Nat} {ks1 gs : List Nat} {v v' : Value} {k g' : Nat} (h : PI l W lo S gp m p d ks1 gs v) (hf : fldF l k = false) (hr : rowF l k = true) {hi : Nat} (hW : Below W.heap.size W W1) (hhi : hi ≤ W1.heap.size) (hP : PtC l W1 W.heap.size hi d g' k)
    (own : W2.ownsRow S 66 1 v' (gs ++ [g']).length ((gs ++ [g']).map ptV)) (hg : W1.grownBy W2 v.ownBlock) (hv : v'.ownBlock = v.ownBlock ∨ v'.ownBlock = some W1.heap.size) : PI l (W2.setCell ⟨gp, 5, none⟩ v') lo S gp m p d (ks1 ++ [k]) (gs ++ [g']) v' := by
  have h1 := h.sz
  have h2 := h.g1
  have h3 := h.m1
  have hs1 := hW.size
  have hs2 := hg.size
  have hs3 : (W2.setCell ⟨gp, 5, none⟩ v').heap.size = W2.heap.size := by simp [World.setCell]
  have hvl : ∀ r, v.ownBlock = some r → S ≤ r ∧ r < W.heap.size := fun r hr => h.ow.lt r hr
  have hvl' : ∀ r, v'.ownBlock = some r → S ≤ r := fun r hr => (own.lt r hr).1
  have hb1 : ∀ j, j < W1.heap.size → v.ownBlock ≠ some j → j ≠ gp → (W2.setCell ⟨gp, 5, none⟩ v').heap[j]? = W1.heap[j]? := fun j hj hn hne => (set_oth (Ne.symm hne)).trans (hg.block j hj (fun e => hn e.symm))
  have hb : ∀ j, j < W.heap.size → v.ownBlock ≠ some j → j ≠ gp → (W2.setCell ⟨gp, 5, none⟩ v').heap[j]? = W.heap[j]? := fun j hj hn hne => (hb1 j (by omega) hn hne).trans (hW.block j hj)
  have hvg : v.ownBlock ≠ some gp := fun e => by have := (hvl gp e).1; omega
  have hvm : v.ownBlock ≠ some m := fun e => by have := (hvl m e).1; omega
  have hcg : W2.heap[gp]? = some (.cells #[.int .i64 (knd (opAt l p)), .string (nmAt l p), .int .i64 (p : Int), .int .u64 (gmax (bpAt l p)), .map (some m), v] 73) := (hg.block gp (by omega) (fun e => hvg e.symm)).trans ((hW.block gp (by omega)).trans h.c)
  have e1 : (ks1 ++ [k]).filter (fldF l) = ks1.filter (fldF l) := by rw [List.filter_append]; simp [hf]
  have e2 : (ks1 ++ [k]).filter (rowF l) = ks1.filter (rowF l) ++ [k] := by rw [List.filter_append]; simp [hr]
  obtain ⟨k', hk', hS⟩ := h.mp
  refine ⟨?_, ⟨k', by simp; omega, ?_⟩, own_keepP own fun r hr => set_oth (by have := hvl' r hr; omega), ?_, fun j g2 q e3 e4 => ?_, h.g1, h.m1, h.gm, by omega⟩
  · have e : (W2.setCell ⟨gp, 5, none⟩ v').heap = W2.heap.modify gp (fun o => match o with
      | .cells cs t f => .cells (cs.setIfInBounds 5 v') t f
      | o => o) := rfl
    rw [e, Array.getElem?_modify, if_pos rfl, hcg]
    rfl
  · rw [e1]
    exact hS.same (hb m (by omega) hvm (fun e => h.gm e.symm))
  · rw [e2, List.length_append, List.length_append, h.ln]
    rfl
  · rw [e2] at e4
    have hln := h.ln
    rcases Nat.lt_or_ge j gs.length with hj | hj
    · rw [List.getElem?_append_left hj] at e3
      rw [List.getElem?_append_left (by omega)] at e4
      obtain ⟨a, b, q1, q2, q3, q4⟩ := h.ch j g2 q e3 e4
      refine ⟨a, b, q1, by omega, q3.same fun x hx1 hx2 => hb x (by omega) (fun e => by have := q4 x e; omega) (by omega), fun r hr => ?_⟩
      rcases hv with hv | hv
      · exact q4 r (hv ▸ hr)
      · rw [hr] at hv
        have := Option.some.inj hv
        omega
    · rw [List.getElem?_append_right hj] at e3
      rw [List.getElem?_append_right (by omega)] at e4
      have h0 : j - gs.length = 0 := by
        have := (List.getElem?_eq_some_iff.1 e3).1
        simp at this
        omega
      rw [h0] at e3
      rw [show j - (ks1.filter (rowF l)).length = 0 by omega] at e4
      cases e3
      cases e4
      refine ⟨W.heap.size, hi, h1, by omega, hP.same fun x hx1 hx2 => hb1 x (by omega) (fun e => by have := (hvl x e).2; omega) (by omega), fun r hr => ?_⟩
      rcases hv with hv | hv
      · exact .inl (hvl r (hv ▸ hr)).2
      · rw [hr] at hv
        have := Option.some.inj hv
        omega
theorem PI.done {l : List Tk} {W : World} {lo S gp m p d n : Nat} {t : Tk} {ks gs : List Nat} {v : Value} (h : PI l W lo S gp m p d ks gs v) (hb : Bgn l p n t ks) : PtC l W lo W.heap.size (d + 1) gp p := by
  have h1 := h.sz
  have h2 := h.g1
  have h3 := h.m1
  have er : ks.filter (rowF l) = rowZ l p := by unfold rowZ; rw [hb.kids]; rfl
  have ef : ks.filter (fldF l) = fldZ l p := by unfold fldZ; rw [hb.kids]; rfl
  obtain ⟨k, _, hS⟩ := h.mp
  refine ⟨⟨h2.1, by omega⟩, m, k, v, gs, h.c, ⟨h3.1, by omega, by rw [ef] at hS; exact hS⟩, fun r hr => (h.ow.lt r hr).2, own_lower h.ow (by omega), by rw [h.ln, er], fun j g' q e1 e2 => ?_⟩
  obtain ⟨a, b, q1, q2, q3, q4⟩ := h.ch j g' q e1 (by rw [er]; exact e2)
  exact q3.mono (by omega) q2
end Go.Proofs.YtepnmfgbflogkaaDoor
namespace Go.Proofs.YtepnmfgbflogkaaDoor
open Go.ChangeShapes Go.WideShapes Go.ChangeAt Go.RowKit Go.Shelf

/-- Hidden. -/
structure Hid0 (p : Prop) : Prop where
  out : p
/-- The answer to a question. -/
def Ans (r : Ending) (P : Prop) : Prop := ∃ b, r = .returned (.bool b) ∧ (b = true ↔ P)
theorem Ans.yes {P : Prop} (h : P) : Ans (.returned (.bool true)) P := ⟨true, rfl, by simp [h]⟩
theorem Ans.no {P : Prop} (h : ¬ P) : Ans (.returned (.bool false)) P := ⟨false, rfl, by simp [h]⟩
theorem Ans.said {r : Ending} {P : Prop} (h : Ans r P) {b : Bool} (hb : P ↔ b = true) : r = .returned (.bool b) := by
  obtain ⟨c, rfl, hc⟩ := h
  rw [hb] at hc
  congr 2
  cases c <;> cases b <;> simp_all
theorem Ans.same {r : Ending} {b : Bool} (h : Ans r (b = true)) : r = .returned (.bool b) := h.said Iff.rfl
end Go.Proofs.YtepnmfgbflogkaaDoor
namespace Go.Proofs.YtepnmfgbflogkaaDoor
open Go.ChangeShapes Go.WideShapes Go.ChangeAt Go.RowKit Go.Shelf Go.Maps

abbrev tkO (t : Tk) (pc : Option Addr) (cc : Nat) : Obj := .cells (tkC t pc cc).toArray 42
theorem bdN {B : Nat} {a w : World} (h : Below B a w) (n : Nat) : Below B a (w.drewN n) := ⟨h.os, h.tape, h.output, h.size, h.block⟩
theorem two_b (w : World) (A B : Obj) : Below w.heap.size w ((w.alloc A).alloc B) := (bel1 w A).alloc (by simp) B
theorem two_1 (w : World) (A B : Obj) : ((w.alloc A).alloc B).heap[w.heap.size]? = some A := by
  show ((w.heap.push A).push B)[w.heap.size]? = _
  rw [Array.getElem?_push, if_neg (by simp), Array.getElem?_push, if_pos rfl]
theorem two_2 (w : World) (A B : Obj) : ((w.alloc A).alloc B).heap[w.heap.size + 1]? = some B := by
  show ((w.heap.push A).push B)[w.heap.size + 1]? = _
  rw [Array.getElem?_push, if_pos (by simp)]
theorem tk_of {w : World} {g : Nat} {t : Tk} {pc : Option Addr} {cc : Nat} (h : w.heap[g]? = some (tkO t pc cc)) : TkC w g 0 t pc cc :=
  tkC_of fun j u hu => by
    rw [Nat.zero_add, cell_at h j, List.getElem?_toArray]
    exact hu
/-- A load of something great, by what it answers. -/
theorem wpList_ld {P : Program} {ops : Array Oper} {Q : Exit → Act → World → Prop} {a : Act} {w : World} {rest : List Oper} {o : Oper} (ty : TypeId) (x : Operand) (ho : o.op = .load ty x)
    (hw : Region.wanted o (yielded ops a.tmps) = true) (p v : Value) (hx : a.eval x = p) (hr : (Instr.loadAt ty p).run P w = .ok v w) (h : wpList P ops Q rest (a.put o.dst v) w) : wpList P ops Q (o :: rest) a w := by
  refine wpList_step fun K hK => ?_
  rw [if_pos hw]
  unfold Oper.wp execOp
  simp only [ho, hx, hr, Sem.run_bind, Result.andThen_ok]
  exact hK _ _ h
theorem tk_range {w : World} {g o : Nat} {t : Tk} {pc : Option Addr} {cc : Nat} (h : TkC w g o t pc cc) : w.rangeAt g o (tkC t pc cc) := by
  intro j v hv
  have hj : j < 21 := (List.getElem?_eq_some_iff.1 hv).1
  have h21 : j = 0 ∨ j = 1 ∨ j = 2 ∨ j = 3 ∨ j = 4 ∨ j = 5 ∨ j = 6 ∨ j = 7 ∨ j = 8 ∨ j = 9 ∨ j = 10 ∨ j = 11 ∨ j = 12 ∨ j = 13 ∨ j = 14 ∨ j = 15 ∨ j = 16 ∨ j = 17 ∨ j = 18 ∨ j = 19 ∨ j = 20 := by omega
  rcases h21 with rfl | rfl | rfl | rfl | rfl | rfl | rfl | rfl | rfl | rfl | rfl | rfl | rfl | rfl | rfl | rfl | rfl | rfl | rfl | rfl | rfl <;> cases Option.some.inj hv
  · exact h.c0
  · exact h.c1
  · exact h.c2
  · exact h.c3
  · exact h.c4
  · exact h.c5
  · exact h.c6
  · exact h.c7
  · exact h.c8
  · exact h.c9
  · exact h.c10
  · exact h.c11
  · exact h.c12
  · exact h.c13
  · exact h.c14
  · exact h.c15
  · exact h.c16
  · exact h.c17
  · exact h.c18
  · exact h.c19
  · exact h.c20
theorem infoTk : (Tryd.prog.info? 42).map (·.size) = some 21 := by kernel_rfl
theorem undTk : ∃ d, Tryd.prog.underlying 42 = some d ∧ d.isRow = true := ⟨_, Tryd.underlying42, rfl⟩
theorem TkC.loadV {w : World} {g o : Nat} {t : Tk} {pc : Option Addr} {cc : Nat} (h : TkC w g o t pc cc) : (loadVar 42 ⟨g, o, none⟩).run Tryd.prog w = .ok (tkV t pc cc) w := by
  obtain ⟨d, hu, hd⟩ := undTk
  exact run_loadVar_mid w g o 42 (tkC t pc cc) d (tk_range h) hu hd infoTk
theorem TkC.load {w : World} {g o : Nat} {t : Tk} {pc : Option Addr} {cc : Nat} (h : TkC w g o t pc cc) : (Instr.loadAt 42 (.pointer (some ⟨g, o, none⟩))).run Tryd.prog w = .ok (tkV t pc cc) w := by
  obtain ⟨d, hu, hd⟩ := undTk
  exact run_loadAt_mid w g o 42 (tkC t pc cc) d (tk_range h) hu hd infoTk
/-- A store of something great. -/
theorem wpList_st {P : Program} {ops : Array Oper} {Q : Exit → Act → World → Prop} {a : Act} {w w' : World} {rest : List Oper} {o : Oper} (ty : TypeId) (x y : Operand) (ho : o.op = .store ty x y)
    (hw : Region.wanted o (yielded ops a.tmps) = true) (p v : Value) (hx : a.eval x = p) (hy : a.eval y = v) (hr : (Instr.storeAt ty p v).run P w = .ok () w') (h : wpList P ops Q rest (a.put o.dst undef) w') : wpList P ops Q (o :: rest) a w := by
  refine wpList_step fun K hK => ?_
  rw [if_pos hw]
  unfold Oper.wp execOp
  simp only [ho, hx, hy, hr, Sem.run_bind, Result.andThen_ok]
  exact hK _ _ h
theorem tkC_one (t : Tk) (pc : Option Addr) (cc : Nat) : ∀ u ∈ tkC t pc cc, u.oneCell' = true := by
  intro u hu
  simp only [tkC, List.mem_cons, List.not_mem_nil, or_false] at hu
  rcases hu with rfl | rfl | rfl | rfl | rfl | rfl | rfl | rfl | rfl | rfl | rfl | rfl | rfl | rfl | rfl | rfl | rfl | rfl | rfl | rfl | rfl <;> rfl
theorem st_new (w : World) (z : Array Value) (hz : z.size = 21) (t : Tk) (pc : Option Addr) (cc : Nat) : (Instr.storeAt 42 (.pointer (some ⟨w.heap.size, 0, none⟩)) (tkV t pc cc)).run Tryd.prog (w.alloc (.cells z 42)) = .ok () (w.alloc (tkO t pc cc)) :=
  run_storeAt_new w 42 z (tkC t pc cc).toArray infoTk hz (all_oneCell_toArray (tkC_one t pc cc))
theorem ba_eq {a b : ByteArray} : a = b ↔ a.toList = b.toList := by
  constructor
  · intro e; rw [e]
  · intro e
    rw [ByteArray.toList_eq, ByteArray.toList_eq] at e
    exact ByteArray.ext (Array.toList_inj.1 e)
theorem tk_eq {t u : Tk} : t = u ↔ t.cst = u.cst ∧ t.op = u.op ∧ t.name.toList = u.name.toList ∧ t.id = u.id ∧ t.off = u.off ∧ t.siz = u.siz ∧ t.since = u.since ∧ t.prim = u.prim ∧ t.len = u.len ∧ t.pres = u.pres ∧ t.nul = u.nul ∧ t.lo = u.lo ∧ t.hi = u.hi ∧ t.val = u.val ∧ t.blk = u.blk ∧ t.full = u.full ∧ t.a.p = u.a.p ∧ t.a.o = u.a.o ∧ t.b.p = u.b.p ∧ t.b.o = u.b.o ∧ t.pair = u.pair := by
  rw [← ba_eq]
  obtain ⟨op1, nm1, id1, of1, sz1, si1, pr1, ln1, ps1, nu1, lo1, hi1, cs1, vl1, bk1, fl1, ⟨ap1, ao1⟩, ⟨bp1, bo1⟩, pa1⟩ := t
  obtain ⟨op2, nm2, id2, of2, sz2, si2, pr2, ln2, ps2, nu2, lo2, hi2, cs2, vl2, bk2, fl2, ⟨ap2, ao2⟩, ⟨bp2, bo2⟩, pa2⟩ := u
  simp only [Tk.mk.injEq, Sp.mk.injEq]
  constructor
  · rintro ⟨rfl, rfl, rfl, rfl, rfl, rfl, rfl, rfl, rfl, rfl, rfl, rfl, rfl, rfl, rfl, rfl, ⟨rfl, rfl⟩, ⟨rfl, rfl⟩, rfl⟩; exact ⟨rfl, rfl, rfl, rfl, rfl, rfl, rfl, rfl, rfl, rfl, rfl, rfl, rfl, rfl, rfl, rfl, rfl, rfl, rfl, rfl, rfl⟩
  · rintro ⟨rfl, rfl, rfl, rfl, rfl, rfl, rfl, rfl, rfl, rfl, rfl, rfl, rfl, rfl, rfl, rfl, rfl, rfl, rfl, rfl, rfl⟩; exact ⟨rfl, rfl, rfl, rfl, rfl, rfl, rfl, rfl, rfl, rfl, rfl, rfl, rfl, rfl, rfl, rfl, ⟨rfl, rfl⟩, ⟨rfl, rfl⟩, rfl⟩
end Go.Proofs.YtepnmfgbflogkaaDoor

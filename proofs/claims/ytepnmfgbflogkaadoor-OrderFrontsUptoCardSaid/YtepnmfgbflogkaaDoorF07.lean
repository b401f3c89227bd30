/- OrD, OrV. -/
import Derived.Test.YtepnmfgbflogkaaDoorF03
import Derived.Test.YtepnmfgbflogkaaDoorF06
namespace Go.Proofs.YtepnmfgbflogkaaDoor

/-- The document's level. -/
structure DL where
  at_ : Nat
  next : Nat
  left : Int
  block : Bool
/-- The document's machine; what is open, the innermost first. -/
structure DM where
  op : List DL
  group : Nat
  count : Int
  all : Int
def callD (l : List Tk) (p : Nat) (nm : ByteArray) : Bool := (fldZ l p).any fun i => decide (nmAt l i = nm)
def leavesD (l : List Tk) (m : DM) : Option DM := match m.op with
  | d :: e :: r => if m.group ≠ 0 ∨ 0 < d.left ∨ d.next < (rowZ l d.at_).length then none else some ⟨⟨e.at_, e.next + 1, e.left, e.block⟩ :: r, m.group, m.count, m.all⟩
  | _ => none
/-- Is a member of a row the one that a call names? -/
def isD (l : List Tk) (q : Nat) (k : Int) (nm : ByteArray) : Bool := decide (nmAt l q = nm) && (decide (opAt l q = 4) == decide (k = 1)) && (decide (opAt l q = 6) == decide (k = 3))
def hereD (l : List Tk) (m : DM) (k cnt : Int) (nm : ByteArray) : Option DM := match m.op with
  | [] => none
  | d :: r =>
    if m.group ≠ 0 then (if k = 2 then some ⟨⟨m.group, 0, m.count - 1, true⟩ :: d :: r, 0, m.count, m.all⟩ else none)
    else if k = 0 then (if (d.block && callD l d.at_ nm) = true then some m else none)
    else if k = 2 then (if r = [] ∨ d.left = 0 ∨ d.next < (rowZ l d.at_).length then none else some ⟨⟨d.at_, 0, d.left - 1, true⟩ :: r, m.group, m.count, m.all⟩)
    else match (rowZ l d.at_)[d.next]? with
      | none => none
      | some q => if isD l q k nm = true then (if k = 1 ∧ 0 < cnt then some ⟨⟨d.at_, d.next, d.left, false⟩ :: r, q, cnt, m.all⟩ else some ⟨⟨d.at_, d.next + 1, d.left, false⟩ :: r, m.group, m.count, m.all⟩) else none
def mayF (l : List Tk) (k cnt : Int) (nm : ByteArray) : Nat → DM → Option DM
  | 0, _ => none
  | n + 1, m => match hereD l m k cnt nm with
    | some m' => some m'
    | none => match leavesD l m with
      | some m' => mayF l k cnt nm n m'
      | none => none
def memF (l : List Tk) (k : Int) (nm : ByteArray) : Nat → DM → Nat
  | 0, _ => 0
  | n + 1, m => match m.op with
    | [] => 0
    | d :: _ => if m.group = 0 ∧ ∃ q, (rowZ l d.at_)[d.next]? = some q ∧ isD l q k nm = true then ((rowZ l d.at_)[d.next]?).getD 0 else
      match leavesD l m with
      | some m' => memF l k nm n m'
      | none => 0
def stepD (l : List Tk) (m : DM) (k cnt : Int) (nm : ByteArray) : Int × DM :=
  if k < 0 ∨ 3 < k then (140, m) else
  match mayF l k cnt nm m.op.length m with
  | none => (140, m)
  | some n => if k = 1 then
      (if cnt < 0 ∨ gmax (bpAt l (memF l k nm m.op.length m)) < cnt then (141, m) else if 65536 - m.all < cnt then (163, m) else (0, ⟨n.op, n.group, n.count, n.all + cnt⟩))
    else (0, n)
/-- The same level; o: a group is open inside it. -/
structure RL (o : Bool) (x : Lv) (d : DL) : Prop where
  a : d.at_ = x.p
  f : d.left = x.left
  b : x.begun = true
  n : x.come = d.next + (if o = true then 1 else 0)
  k : d.block = decide (x.come = 0)
def RLs : List Lv → List DL → Prop
  | [], [] => True
  | x :: r, d :: ds => RL true x d ∧ RLs r ds
  | _, _ => False
/-- The same machine. -/
def Rel (s : Ms) (m : DM) : Prop := m.all = s.ent ∧ match s.op with
  | [] => False
  | x :: r => if x.begun = true then m.group = 0 ∧ ∃ d ds, m.op = d :: ds ∧ RL false x d ∧ RLs r ds else m.group = x.p ∧ 0 < x.p ∧ m.count = x.left ∧ 0 < x.left ∧ RLs r m.op ∧ r ≠ []
theorem RLs_len : ∀ {r : List Lv} {ds : List DL}, RLs r ds → r.length = ds.length
  | [], [], _ => rfl
  | x :: r, d :: ds, h => by simp only [List.length_cons]; rw [RLs_len h.2]
  | [], _ :: _, h => h.elim
  | _ :: _, [], h => h.elim
theorem RL.shut {x : Lv} {d : DL} (h : RL true x d) : RL false x ⟨d.at_, d.next + 1, d.left, d.block⟩ := ⟨h.a, h.f, h.b, by have := h.n; simpa using this, h.k⟩
theorem RL.hold {x : Lv} {d : DL} (h : RL true x d) : d.block = false := by rw [h.k]; have := h.n; simp at this; simp; omega
theorem knd_isD {f : Fm} {p n : Nat} {t : Tk} {ks : List Nat} (hb : Blk f p n t ks) {q : Nat} (hq : q ∈ rowZ f.toks p) {k : Int} (hk : k = 1 ∨ k = 3) (nm : ByteArray) : isD f.toks q k nm = true ↔ knd (opAt f.toks q) = k ∧ nmAt f.toks q = nm := by
  obtain ⟨u, hu, huo, _⟩ := hb.row hq
  unfold isD knd
  rw [opAt_some hu]
  simp only [Bool.and_eq_true, decide_eq_true_eq, beq_iff_eq]
  rcases huo with e | e <;> rcases hk with rfl | rfl <;> rw [e] <;> simp
theorem hereD_0 {l : List Tk} {m : DM} {d : DL} {ds : List DL} (hop : m.op = d :: ds) (hg : m.group = 0) (cnt : Int) (nm : ByteArray) : hereD l m 0 cnt nm = if (d.block && callD l d.at_ nm) = true then some m else none := by
  unfold hereD; rw [hop]; simp [hg]
theorem hereD_2 {l : List Tk} {m : DM} {d : DL} {ds : List DL} (hop : m.op = d :: ds) (hg : m.group = 0) (cnt : Int) (nm : ByteArray) : hereD l m 2 cnt nm = if ds = [] ∨ d.left = 0 ∨ d.next < (rowZ l d.at_).length then none else some ⟨⟨d.at_, 0, d.left - 1, true⟩ :: ds, 0, m.count, m.all⟩ := by
  unfold hereD; rw [hop]; simp [hg]
theorem hereD_m {l : List Tk} {m : DM} {d : DL} {ds : List DL} (hop : m.op = d :: ds) (hg : m.group = 0) {k : Int} (hk : k = 1 ∨ k = 3) (cnt : Int) (nm : ByteArray) : hereD l m k cnt nm = match (rowZ l d.at_)[d.next]? with
      | none => none
      | some q => if isD l q k nm = true then (if k = 1 ∧ 0 < cnt then some ⟨⟨d.at_, d.next, d.left, false⟩ :: ds, q, cnt, m.all⟩ else some ⟨⟨d.at_, d.next + 1, d.left, false⟩ :: ds, 0, m.count, m.all⟩) else none := by
  unfold hereD; rw [hop]; rcases hk with rfl | rfl <;> simp [hg]
theorem hereD_g {l : List Tk} {m : DM} {d : DL} {ds : List DL} (hop : m.op = d :: ds) (hg : m.group ≠ 0) (k cnt : Int) (nm : ByteArray) : hereD l m k cnt nm = if k = 2 then some ⟨⟨m.group, 0, m.count - 1, true⟩ :: d :: ds, 0, m.count, m.all⟩ else none := by
  unfold hereD; rw [hop]; simp [hg]
theorem rel_b {x : Lv} {r : List Lv} {ent : Int} {m : DM} (hb : x.begun = true) : Rel ⟨x :: r, ent⟩ m ↔ m.all = ent ∧ m.group = 0 ∧ ∃ d ds, m.op = d :: ds ∧ RL false x d ∧ RLs r ds := by
  unfold Rel; simp [hb]
theorem rel_n {x : Lv} {r : List Lv} {ent : Int} {m : DM} (hb : x.begun = false) : Rel ⟨x :: r, ent⟩ m ↔ m.all = ent ∧ m.group = x.p ∧ 0 < x.p ∧ m.count = x.left ∧ 0 < x.left ∧ RLs r m.op ∧ r ≠ [] := by
  unfold Rel; simp [hb]
/-- A field at the innermost. -/
theorem here_f {f : Fm} {x : Lv} {r : List Lv} {ent : Int} {m : DM} (hR : Rel ⟨x :: r, ent⟩ m) (cnt : Int) (nm : ByteArray) : hereD f.toks m 0 cnt nm = if fieldB f.toks x nm = true then some m else none := by
  cases hb : x.begun with
  | true =>
    obtain ⟨_, hg, d, ds, hop, hd, _⟩ := (rel_b hb).1 hR
    rw [hereD_0 hop hg]
    have e : (d.block && callD f.toks d.at_ nm) = fieldB f.toks x nm := by
      unfold fieldB callD
      rw [hd.k, hd.a, hb]
      simp
    rw [e]
  | false =>
    obtain ⟨_, hg, h0, _, _, hr, hne⟩ := (rel_n hb).1 hR
    have hf : fieldB f.toks x nm = false := by unfold fieldB; rw [hb]; rfl
    rw [hf]
    cases hop : m.op with
    | nil => unfold hereD; rw [hop]; simp
    | cons d ds => rw [hereD_g hop (by omega)]; simp
theorem here_n {f : Fm} {x : Lv} {r : List Lv} {ent : Int} {m : DM} (ho : MsOk f.toks ⟨x :: r, ent⟩) (hR : Rel ⟨x :: r, ent⟩ m) (cnt : Int) (nm : ByteArray) :
    if x.left = 0 ∨ (x.begun = true ∧ wholeB f.toks x = false) then hereD f.toks m 2 cnt nm = none else ∃ m', hereD f.toks m 2 cnt nm = some m' ∧ Rel ⟨⟨x.p, x.left - 1, true, 0⟩ :: r, ent⟩ m' := by
  cases hb : x.begun with
  | true =>
    obtain ⟨ha, hg, d, ds, hop, hd, hds⟩ := (rel_b hb).1 hR
    have hn := hd.n
    simp only [Bool.false_eq_true, if_false, Nat.add_zero] at hn
    have hxa := ho.all x (List.mem_cons_self ..)
    rw [hereD_2 hop hg]
    have hw : wholeB f.toks x = decide (d.next = (rowZ f.toks d.at_).length) := by unfold wholeB; rw [hb, hn, hd.a]; simp
    have hle : d.next ≤ (rowZ f.toks d.at_).length := by rw [← hn, hd.a]; exact hxa.le
    split
    · rename_i hc
      rw [if_pos]
      rcases hc with h | ⟨_, h⟩
      · exact .inr (.inl (by rw [hd.f]; exact h))
      · rw [hw] at h
        have := of_decide_eq_false h
        exact .inr (.inr (by omega))
    · rename_i hc
      have hl : x.left ≠ 0 := fun h => hc (.inl h)
      have hwt : wholeB f.toks x = true := by
        cases h : wholeB f.toks x with
        | true => rfl
        | false => exact absurd (.inr ⟨rfl, h⟩) hc
      rw [if_neg]
      · refine ⟨_, rfl, (rel_b rfl).2 ⟨ha, rfl, _, _, rfl, ⟨hd.a, by show d.left - 1 = _; rw [hd.f], rfl, rfl, rfl⟩, hds⟩⟩
      · rintro (h | h | h)
        · have hr := RLs_len hds
          rw [h] at hr
          have hr0 : r = [] := List.eq_nil_of_length_eq_zero hr
          have := ho.bt
          rw [hr0] at this
          exact hl this.1
        · exact hl (by rw [← hd.f]; exact h)
        · rw [hw] at hwt
          have := of_decide_eq_true hwt
          omega
  | false =>
    obtain ⟨ha, hg, h0, hc, hl, hr, hne⟩ := (rel_n hb).1 hR
    rw [if_neg (by rintro (h | ⟨h, _⟩); · omega
                   · cases h)]
    cases hop : m.op with
    | nil => rw [hop] at hr; cases r with
      | nil => exact absurd rfl hne
      | cons y r => exact hr.elim
    | cons d ds =>
      rw [hereD_g hop (by omega), if_pos rfl]
      refine ⟨_, rfl, (rel_b rfl).2 ⟨ha, rfl, _, _, rfl, ⟨hg, by show m.count - 1 = _; rw [hc], rfl, rfl, rfl⟩, ?_⟩⟩
      rw [hop] at hr
      exact hr
theorem here_m {f : Fm} (hz : chkZ f = none) {x : Lv} {r : List Lv} {ent : Int} {m : DM} (ho : MsOk f.toks ⟨x :: r, ent⟩) (hi : InF f.toks ⟨x :: r, ent⟩) (hR : Rel ⟨x :: r, ent⟩ m) {k : Int} (hk : k = 1 ∨ k = 3) (cnt : Int) (nm : ByteArray) :
    match memZ f.toks x k nm with
    | none => hereD f.toks m k cnt nm = none ∧ ¬ (m.group = 0 ∧ ∃ d ds q, m.op = d :: ds ∧ (rowZ f.toks d.at_)[d.next]? = some q ∧ isD f.toks q k nm = true)
    | some q => m.group = 0 ∧ (∃ d ds, m.op = d :: ds ∧ (rowZ f.toks d.at_)[d.next]? = some q ∧ isD f.toks q k nm = true) ∧ ∃ m', hereD f.toks m k cnt nm = some m' ∧ m'.all = m.all ∧ Rel ⟨(if k = 1 ∧ 0 < cnt then [⟨q, cnt, false, 0⟩] else []) ++ ⟨x.p, x.left, x.begun, x.come + 1⟩ :: r, ent⟩ m' := by
  cases hb : x.begun with
  | true =>
    obtain ⟨ha, hg, d, ds, hop, hd, hds⟩ := (rel_b hb).1 hR
    have hn := hd.n
    simp only [Bool.false_eq_true, if_false, Nat.add_zero] at hn
    have hxa := ho.all x (List.mem_cons_self ..)
    obtain ⟨n, t, ks, hbk⟩ := hxa.blk hz (hi x (List.mem_cons_self ..))
    have hmz : memZ f.toks x k nm = match (rowZ f.toks d.at_)[d.next]? with
      | some q => if knd (opAt f.toks q) = k ∧ nmAt f.toks q = nm then some q else none
      | none => none := by unfold memZ; rw [if_pos hb, hn, hd.a]; rfl
    rw [hereD_m hop hg hk, hmz]
    cases hq : (rowZ f.toks d.at_)[d.next]? with
    | none =>
      refine ⟨rfl, ?_⟩
      rintro ⟨_, d', ds', q', e, e2, _⟩
      rw [hop] at e
      cases e
      rw [hq] at e2
      cases e2
    | some q =>
      have hqr : q ∈ rowZ f.toks x.p := by rw [← hd.a]; exact List.mem_of_getElem? hq
      have hiff := knd_isD hbk hqr hk nm
      by_cases hc : knd (opAt f.toks q) = k ∧ nmAt f.toks q = nm
      · have hI := hiff.2 hc
        simp only [if_pos hc, hI, if_true]
        refine ⟨hg, ⟨d, ds, hop, hq, trivial⟩, ?_⟩
        obtain ⟨u, hu, huo, hpq, _⟩ := hbk.row hqr
        by_cases hc2 : k = 1 ∧ 0 < cnt
        · rw [if_pos hc2, if_pos hc2]
          refine ⟨_, rfl, rfl, (rel_n rfl).2 ⟨ha, rfl, by show 0 < q; omega, rfl, hc2.2, ⟨⟨hd.a, hd.f, rfl, by show x.come + 1 = d.next + 1; rw [hn], by simp⟩, hds⟩, by simp⟩⟩
        · rw [if_neg hc2, if_neg hc2]
          refine ⟨_, rfl, rfl, (rel_b rfl).2 ⟨ha, rfl, _, _, rfl, ⟨hd.a, hd.f, rfl, by show x.come + 1 = d.next + 1 + 0; rw [hn], by simp⟩, hds⟩⟩
      · have hI : isD f.toks q k nm = false := by
          cases h : isD f.toks q k nm with
          | true => exact absurd (hiff.1 h) hc
          | false => rfl
        simp only [if_neg hc, hI]
        refine ⟨by simp, ?_⟩
        rintro ⟨_, d', ds', q', e, e2, e3⟩
        rw [hop] at e
        cases e
        rw [hq] at e2
        cases e2
        rw [hI] at e3
        cases e3
  | false =>
    obtain ⟨ha, hg, h0, hc, hl, hr, hne⟩ := (rel_n hb).1 hR
    have hmz : memZ f.toks x k nm = none := by unfold memZ; rw [hb]; rfl
    rw [hmz]
    refine ⟨?_, fun h => by omega⟩
    cases hop : m.op with
    | nil => unfold hereD; rw [hop]
    | cons d ds => rw [hereD_g hop (by omega), if_neg (by omega)]
/-- What is over is left, what isn't stays. -/
theorem leaves_top {f : Fm} {x : Lv} {r : List Lv} {ent : Int} {m : DM} (ho : MsOk f.toks ⟨x :: r, ent⟩) (hR : Rel ⟨x :: r, ent⟩ m) :
    if overB f.toks x = true ∧ r ≠ [] then ∃ m', leavesD f.toks m = some m' ∧ m'.op.length + 1 = m.op.length ∧ m'.all = m.all ∧ Rel ⟨r, ent⟩ m' else leavesD f.toks m = none := by
  cases hb : x.begun with
  | true =>
    obtain ⟨ha, hg, d, ds, hop, hd, hds⟩ := (rel_b hb).1 hR
    have hn := hd.n
    simp only [Bool.false_eq_true, if_false, Nat.add_zero] at hn
    have hxa := ho.all x (List.mem_cons_self ..)
    have hw : overB f.toks x = (decide (d.next = (rowZ f.toks d.at_).length) && decide (d.left = 0)) := by unfold overB wholeB; rw [hb, hn, hd.a, hd.f]; simp
    have hle : d.next ≤ (rowZ f.toks d.at_).length := by rw [← hn, hd.a]; exact hxa.le
    have hl0 : 0 ≤ d.left := by rw [hd.f]; exact hxa.l0
    cases r with
    | nil =>
      rw [if_neg (by simp)]
      cases ds with
      | nil => unfold leavesD; rw [hop]
      | cons e ds => exact hds.elim
    | cons y r =>
      cases ds with
      | nil => exact hds.elim
      | cons e ds =>
        obtain ⟨he, hes⟩ := hds
        have hL : leavesD f.toks m = if m.group ≠ 0 ∨ 0 < d.left ∨ d.next < (rowZ f.toks d.at_).length then none else some ⟨⟨e.at_, e.next + 1, e.left, e.block⟩ :: ds, m.group, m.count, m.all⟩ := by unfold leavesD; rw [hop]
        rw [hL]
        cases hv : overB f.toks x with
        | true =>
          rw [hw] at hv
          simp only [Bool.and_eq_true, decide_eq_true_eq] at hv
          rw [if_pos ⟨rfl, by simp⟩, if_neg (by rintro (h | h | h) <;> omega)]
          exact ⟨_, rfl, by rw [hop]; simp, rfl, (rel_b he.b).2 ⟨ha, hg, _, _, rfl, he.shut, hes⟩⟩
        | false =>
          rw [if_neg (by simp), if_pos]
          rw [hw] at hv
          by_cases h1 : d.next = (rowZ f.toks d.at_).length
          · have h2 : ¬ d.left = 0 := fun h => by rw [h1, h] at hv; simp at hv
            exact .inr (.inl (by omega))
          · exact .inr (.inr (by omega))
  | false =>
    obtain ⟨ha, hg, h0, hc, hl, hr, hne⟩ := (rel_n hb).1 hR
    have hv : overB f.toks x = false := by unfold overB wholeB; rw [hb]; rfl
    rw [hv, if_neg (by simp)]
    unfold leavesD
    split
    · rw [if_pos (.inl (by omega))]
    · rfl
theorem rel_len {x : Lv} {r : List Lv} {ent : Int} {m : DM} (hR : Rel ⟨x :: r, ent⟩ m) : 0 < m.op.length := by
  cases hb : x.begun with
  | true => obtain ⟨_, _, d, ds, hop, _⟩ := (rel_b hb).1 hR; rw [hop]; simp
  | false =>
    obtain ⟨_, _, _, _, _, hr, hne⟩ := (rel_n hb).1 hR
    have := RLs_len hr
    cases r with
    | nil => exact absurd rfl hne
    | cons y r => simp at this; omega
theorem MsOk.tail {l : List Tk} {x y : Lv} {r : List Lv} {ent : Int} (h : MsOk l ⟨x :: y :: r, ent⟩) : MsOk l ⟨y :: r, ent⟩ :=
  ⟨by simp, fun z hz => h.all z (List.mem_cons_of_mem _ hz), h.e0, h.e1, fun z r' e hb => by
    simp only [List.cons.injEq] at e
    have := h.fst y (by simp)
    rw [e.1, hb] at this
    exact Bool.noConfusion this, fun z hz => h.fst z (by simp at hz ⊢; exact .inr hz), by have := h.len; simp at this ⊢; omega, h.bt⟩
/-- The same machines at a field. -/
theorem step_f {f : Fm} {ent : Int} (nm : ByteArray) (cnt : Int) : ∀ {n : Nat} {x : Lv} {r : List Lv} {m : DM}, MsOk f.toks ⟨x :: r, ent⟩ → Rel ⟨x :: r, ent⟩ m → m.op.length ≤ n → fieldB f.toks x nm = false → (∀ y ∈ r, y.begun = true → y.come ≠ 0) → mayF f.toks 0 cnt nm n m = none
  | 0, _, _, _, _, _, _, _, _ => rfl
  | n + 1, x, r, m, ho, hR, hn, hf, hr => by
    rw [mayF, here_f hR, hf]
    simp only [Bool.false_eq_true, if_false]
    have hl := leaves_top ho hR
    by_cases hv : overB f.toks x = true ∧ r ≠ []
    · rw [if_pos hv] at hl
      obtain ⟨m', e, e2, _, hR'⟩ := hl
      rw [e]
      cases r with
      | nil => exact absurd rfl hv.2
      | cons y r =>
        have hy := ho.fst y (by simp)
        refine step_f nm cnt ho.tail hR' (by omega) ?_ (fun z hz => hr z (List.mem_cons_of_mem _ hz))
        have := hr y (List.mem_cons_self ..) hy
        unfold fieldB
        simp [this]
    · rw [if_neg hv] at hl
      rw [hl]
theorem leave_more {l : List Tk} {x y : Lv} {r : List Lv} (h : overB l x = true) : leaveR l (x :: y :: r) = leaveR l (y :: r) := by rw [leaveR, if_pos h]
theorem leave_stay {l : List Tk} {x : Lv} {r : List Lv} (h : ¬ (overB l x = true ∧ r ≠ [])) : leaveR l (x :: r) = x :: r := by
  cases r with
  | nil => rfl
  | cons y r => rw [leaveR, if_neg (fun e => h ⟨e, by simp⟩)]
theorem over_left {l : List Tk} {x : Lv} (h : overB l x = true) : x.left = 0 := by
  unfold overB at h
  simp only [Bool.and_eq_true, decide_eq_true_eq] at h
  exact h.2
theorem over_mem {l : List Tk} {x : Lv} (h : overB l x = true) (k : Int) (nm : ByteArray) : memZ l x k nm = none := by
  unfold overB wholeB at h
  simp only [Bool.and_eq_true, decide_eq_true_eq] at h
  unfold memZ
  rw [if_pos h.1.1, List.getElem?_eq_none (by omega)]
/-- The same machines at an entry. -/
theorem step_n {f : Fm} {ent : Int} (nm : ByteArray) (cnt : Int) : ∀ {n : Nat} {x : Lv} {r : List Lv} {m : DM}, MsOk f.toks ⟨x :: r, ent⟩ → Rel ⟨x :: r, ent⟩ m → m.op.length ≤ n →
    ∃ y r', leaveR f.toks (x :: r) = y :: r' ∧ if y.left = 0 ∨ (y.begun = true ∧ wholeB f.toks y = false) then mayF f.toks 2 cnt nm n m = none else ∃ m', mayF f.toks 2 cnt nm n m = some m' ∧ Rel ⟨⟨y.p, y.left - 1, true, 0⟩ :: r', ent⟩ m'
  | 0, x, r, m, _, hR, hn => by have := rel_len hR; omega
  | n + 1, x, r, m, ho, hR, hn => by
    have hl := leaves_top ho hR
    have hh := here_n ho hR cnt nm
    by_cases hv : overB f.toks x = true ∧ r ≠ []
    · rw [if_pos hv] at hl
      obtain ⟨m', e, e2, _, hR'⟩ := hl
      rw [if_pos (.inl (over_left hv.1))] at hh
      rw [mayF, hh]
      simp only [e]
      cases r with
      | nil => exact absurd rfl hv.2
      | cons y r =>
        rw [leave_more hv.1]
        exact step_n nm cnt ho.tail hR' (by omega)
    · rw [if_neg hv] at hl
      refine ⟨x, r, leave_stay hv, ?_⟩
      split at hh
      · rename_i hc
        rw [if_pos hc, mayF, hh, hl]
      · rename_i hc
        rw [if_neg hc]
        obtain ⟨m', e, e2⟩ := hh
        exact ⟨m', by rw [mayF, e], e2⟩
/-- The same machines at a member of a row. -/
theorem step_m {f : Fm} (hz : chkZ f = none) {ent : Int} {k : Int} (hk : k = 1 ∨ k = 3) (nm : ByteArray) (cnt : Int) : ∀ {n : Nat} {x : Lv} {r : List Lv} {m : DM}, MsOk f.toks ⟨x :: r, ent⟩ → InF f.toks ⟨x :: r, ent⟩ → Rel ⟨x :: r, ent⟩ m → m.op.length ≤ n →
    ∃ y r', leaveR f.toks (x :: r) = y :: r' ∧ match memZ f.toks y k nm with
      | none => mayF f.toks k cnt nm n m = none
      | some q => memF f.toks k nm n m = q ∧ ∃ m', mayF f.toks k cnt nm n m = some m' ∧ m'.all = m.all ∧ Rel ⟨(if k = 1 ∧ 0 < cnt then [⟨q, cnt, false, 0⟩] else []) ++ ⟨y.p, y.left, y.begun, y.come + 1⟩ :: r', ent⟩ m'
  | 0, x, r, m, _, _, hR, hn => by have := rel_len hR; omega
  | n + 1, x, r, m, ho, hi, hR, hn => by
    have hl := leaves_top ho hR
    have hh := here_m hz ho hi hR hk cnt nm
    obtain ⟨d, ds, hop⟩ : ∃ d ds, m.op = d :: ds := by
      have := rel_len hR
      cases h : m.op with
      | nil => rw [h] at this; simp at this
      | cons d ds => exact ⟨d, ds, rfl⟩
    by_cases hv : overB f.toks x = true ∧ r ≠ []
    · rw [if_pos hv] at hl
      obtain ⟨m', e, e2, e3, hR'⟩ := hl
      rw [over_mem hv.1] at hh
      obtain ⟨hh, hno⟩ := hh
      have hmem : memF f.toks k nm (n + 1) m = memF f.toks k nm n m' := by
        rw [memF, hop]
        simp only
        rw [if_neg (fun h => hno ⟨h.1, d, ds, h.2.choose, hop, h.2.choose_spec⟩), e]
      have hmay : mayF f.toks k cnt nm (n + 1) m = mayF f.toks k cnt nm n m' := by rw [mayF, hh, e]
      rw [hmem, hmay, ← e3]
      cases r with
      | nil => exact absurd rfl hv.2
      | cons y r =>
        rw [leave_more hv.1]
        exact step_m hz hk nm cnt ho.tail (fun z hz => hi z (List.mem_cons_of_mem _ hz)) hR' (by omega)
    · rw [if_neg hv] at hl
      refine ⟨x, r, leave_stay hv, ?_⟩
      cases hm : memZ f.toks x k nm with
      | none =>
        rw [hm] at hh
        show mayF f.toks k cnt nm (n + 1) m = none
        rw [mayF, hh.1, hl]
      | some q =>
        rw [hm] at hh
        obtain ⟨hg, ⟨d', ds', e1, e2, e3⟩, m', e4, e5, e6⟩ := hh
        refine ⟨?_, m', by rw [mayF, e4], e5, e6⟩
        rw [e1] at hop
        cases hop
        rw [memF, e1]
        simp only
        rw [if_pos ⟨hg, q, e2, e3⟩, e2]
        rfl
theorem rls_come : ∀ {r : List Lv} {ds : List DL}, RLs r ds → ∀ y ∈ r, y.come ≠ 0
  | [], _, _, y, hy => by cases hy
  | x :: r, d :: ds, h, y, hy => by
    rcases List.mem_cons.1 hy with rfl | hy
    · have := h.1.n; simp at this; omega
    · exact rls_come h.2 y hy
  | _ :: _, [], h, _, _ => h.elim
theorem rel_come {x : Lv} {r : List Lv} {ent : Int} {m : DM} (hR : Rel ⟨x :: r, ent⟩ m) : ∀ y ∈ r, y.come ≠ 0 := by
  cases hb : x.begun with
  | true => obtain ⟨_, _, d, ds, _, _, h⟩ := (rel_b hb).1 hR; exact rls_come h
  | false => obtain ⟨_, _, _, _, _, h, _⟩ := (rel_n hb).1 hR; exact rls_come h
/-- One step: the same error, and the same machine again. -/
theorem stepD_eq {f : Fm} (hz : chkZ f = none) {s : Ms} {m : DM} (ho : MsOk f.toks s) (hi : InF f.toks s) (hR : Rel s m) (k cnt : Int) (nm : ByteArray) :
    (stepD f.toks m k cnt nm).1 = (stepZ f.toks s k cnt nm).1 ∧ Rel (stepZ f.toks s k cnt nm).2 (stepD f.toks m k cnt nm).2 := by
  obtain ⟨op, ent⟩ := s
  cases op with
  | nil => exact absurd rfl ho.ne
  | cons x r =>
    unfold stepD stepZ
    by_cases hk : k < 0 ∨ 4 ≤ k
    · rw [if_pos hk, if_pos (by omega)]
      exact ⟨rfl, hR⟩
    · rw [if_neg hk, if_neg (by omega)]
      have hk4 : k = 0 ∨ k = 2 ∨ (k = 1 ∨ k = 3) := by omega
      have hall : m.all = ent := hR.1
      rcases hk4 with rfl | rfl | hk
      · simp only [if_true]
        cases hf : fieldB f.toks x nm with
        | true =>
          have e : mayF f.toks 0 cnt nm m.op.length m = some m := by
            have := rel_len hR
            obtain ⟨n, hn⟩ : ∃ n, m.op.length = n + 1 := ⟨m.op.length - 1, by omega⟩
            rw [hn, mayF, here_f hR, hf]
            rfl
          rw [e]
          simp
          exact hR
        | false =>
          have e : mayF f.toks 0 cnt nm m.op.length m = none := step_f nm cnt ho hR (Nat.le_refl _) hf (fun y hy _ => rel_come hR y hy)
          rw [e]
          simp
          exact hR
      · obtain ⟨y, r', e, h⟩ := step_n nm cnt ho hR (Nat.le_refl _)
        simp only [show ((2 : Int) = 0) = False by simp, if_false, e, if_true]
        by_cases hc : y.left = 0 ∨ (y.begun = true ∧ wholeB f.toks y = false)
        · rw [if_pos hc] at h ⊢
          rw [h]
          exact ⟨rfl, hR⟩
        · rw [if_neg hc] at h ⊢
          obtain ⟨m', e1, e2⟩ := h
          rw [e1]
          simp
          exact e2
      · have hk0 : ¬ k = 0 := by omega
        have hk2 : ¬ k = 2 := by omega
        obtain ⟨y, r', e, h⟩ := step_m hz hk nm cnt ho hi hR (Nat.le_refl _)
        simp only [if_neg hk0, e, if_neg hk2]
        cases hm : memZ f.toks y k nm with
        | none =>
          rw [hm] at h
          have h : mayF f.toks k cnt nm m.op.length m = none := h
          rw [h]
          exact ⟨rfl, hR⟩
        | some q =>
          rw [hm] at h
          obtain ⟨h1, m', h2, h3, h4⟩ := h
          rw [h2, h1]
          simp only
          rcases hk with rfl | rfl
          · have e3 : ((1 : Int) = 3) = False := by simp
            simp only [e3, if_true, if_false, hall]
            by_cases hc1 : cnt < 0 ∨ gmax (bpAt f.toks q) < cnt
            · rw [if_pos hc1, if_pos hc1]
              exact ⟨rfl, hR⟩
            · rw [if_neg hc1, if_neg hc1]
              by_cases hc2 : 65536 - ent < cnt
              · rw [if_pos hc2, if_pos hc2]
                exact ⟨rfl, hR⟩
              · rw [if_neg hc2, if_neg hc2]
                refine ⟨rfl, ?_⟩
                simp only [true_and] at h4
                have h5 : m'.all + cnt = ent + cnt := by rw [h3, hall]
                obtain ⟨hx, hy⟩ := h4
                exact ⟨h5, hy⟩
          · have e3 : ((3 : Int) = 1) = False := by simp
            simp only [e3, if_true, if_false]
            refine ⟨trivial, ?_⟩
            simp only [e3, false_and, if_false, List.nil_append] at h4
            exact h4
def dlLeft (d : DL) : Int := d.left
/-- What the document tells: Done, Inside, Left. -/
def doneF (l : List Tk) : Nat → DM → Bool
  | 0, _ => false
  | n + 1, m => if 1 < m.op.length ∨ m.group ≠ 0 then (match leavesD l m with
      | some m' => doneF l n m'
      | none => false) else match m.op with
      | [d] => decide (d.next = (rowZ l 0).length)
      | _ => false
def insD (m : DM) : Nat := match m.op with
  | d :: _ => d.at_
  | [] => 0
def leftD (m : DM) : List Int := (m.op.reverse.map DL.left).drop 1 ++ (if m.group ≠ 0 then [m.count] else [])
theorem rls_left : ∀ {r : List Lv} {ds : List DL}, RLs r ds → r.map Lv.left = ds.map DL.left
  | [], [], _ => rfl
  | x :: r, d :: ds, h => by rw [List.map_cons, List.map_cons, rls_left h.2, h.1.f]
  | [], _ :: _, h => h.elim
  | _ :: _, [], h => h.elim
theorem ins_eq {s : Ms} {m : DM} (hR : Rel s m) : insD m = insZ s := by
  obtain ⟨op, ent⟩ := s
  cases op with
  | nil => exact hR.2.elim
  | cons x r =>
    unfold insD insZ
    cases hb : x.begun with
    | true =>
      obtain ⟨_, _, d, ds, hop, hd, _⟩ := (rel_b hb).1 hR
      rw [hop]
      simp [hd.a, hb]
    | false =>
      obtain ⟨_, _, _, _, _, hr, hne⟩ := (rel_n hb).1 hR
      cases r with
      | nil => exact absurd rfl hne
      | cons y r =>
        cases hop : m.op with
        | nil => rw [hop] at hr; exact hr.elim
        | cons d ds => rw [hop] at hr; simp [hr.1.a, hb]
theorem left_eq {s : Ms} {m : DM} (hR : Rel s m) : leftD m = leftZ s := by
  obtain ⟨op, ent⟩ := s
  cases op with
  | nil => exact hR.2.elim
  | cons x r =>
    unfold leftD leftZ
    cases hb : x.begun with
    | true =>
      obtain ⟨_, hg, d, ds, hop, hd, hds⟩ := (rel_b hb).1 hR
      rw [hop, if_neg (by simp [hg]), List.append_nil]
      have e : (d :: ds).reverse.map DL.left = (x :: r).reverse.map Lv.left := by
        rw [List.map_reverse, List.map_reverse, List.map_cons, List.map_cons, hd.f, rls_left hds]
      rw [e]
    | false =>
      obtain ⟨_, hg, h0, hc, _, hr, hne⟩ := (rel_n hb).1 hR
      rw [if_pos (by omega), hc]
      have e : m.op.reverse.map DL.left = r.reverse.map Lv.left := by rw [List.map_reverse, List.map_reverse, rls_left hr]
      rw [e, List.reverse_cons, List.map_append, List.map_singleton]
      have : 1 ≤ (r.reverse.map Lv.left).length := by
        cases r with
        | nil => exact absurd rfl hne
        | cons y r => simp
      rw [List.drop_append_of_le_length this]
theorem done_eq {f : Fm} {ent : Int} : ∀ {n : Nat} {x : Lv} {r : List Lv} {m : DM}, MsOk f.toks ⟨x :: r, ent⟩ → (∀ y, (x :: r).getLast? = some y → y.p = 0) → Rel ⟨x :: r, ent⟩ m → m.op.length ≤ n → doneF f.toks n m = doneB f.toks ⟨x :: r, ent⟩
  | 0, x, r, m, _, _, hR, hn => by have := rel_len hR; omega
  | n + 1, x, r, m, ho, hp, hR, hn => by
    have hl := leaves_top ho hR
    unfold doneB
    rw [doneF, List.all_cons]
    cases hb : x.begun with
    | true =>
      obtain ⟨_, hg, d, ds, hop, hd, hds⟩ := (rel_b hb).1 hR
      have hlen := RLs_len hds
      cases r with
      | nil =>
        cases ds with
        | cons e ds => exact hds.elim
        | nil =>
          rw [hop, if_neg (by simp [hg])]
          have hx0 := hp x rfl
          have hb0 := ho.bt
          unfold overB wholeB
          have hn' := hd.n
          simp only [Bool.false_eq_true, if_false, Nat.add_zero] at hn'
          rw [hb, hx0, hn', hb0.1]
          simp
      | cons y r =>
        rw [if_pos (.inl (by rw [hop]; simp [← hlen]))]
        cases hv : overB f.toks x with
        | true =>
          rw [if_pos ⟨hv, by simp⟩] at hl
          obtain ⟨m', e, e2, _, hR'⟩ := hl
          rw [e]
          simp only [Bool.true_and]
          exact done_eq ho.tail (fun z hz => hp z (by rw [List.getLast?_cons_cons]; exact hz)) hR' (by omega)
        | false =>
          rw [if_neg (by simp [hv])] at hl
          rw [hl]
          simp
    | false =>
      obtain ⟨_, hg, h0, _, _, hr, hne⟩ := (rel_n hb).1 hR
      have hv : overB f.toks x = false := by unfold overB wholeB; rw [hb]; rfl
      rw [hv, if_neg (by simp)] at hl
      rw [if_pos (.inr (by omega)), hl, hv]
      simp
end Go.Proofs.YtepnmfgbflogkaaDoor
namespace Go.Proofs.YtepnmfgbflogkaaDoor
open Go.ChangeShapes Go.WideShapes Go.ChangeAt Go.RowKit Go.Shelf Go.Maps

set_option maxRecDepth 20000 in
theorem isOver_any (l : List Tk) (g : Nat) (x : Lv) (w : World) (hr : RwC w g (rowZ l x.p).length) :
    Calls Tryd.prog 17 #[lvV g x] w fun r w' => r = .returned (.bool (overB l x)) ∧ Below w.heap.size w w' := by
  have hb := bel1 w (lvO g x)
  have cW := isWhole_any l g x _ (hr.below hb)
  obtain ⟨c0, c1, c2, c3⟩ := lvc_new w g x
  have hB : Hid (Below w.heap.size w (w.alloc (lvO g x))) := ⟨hb⟩
  have hsz : Hid ((w.alloc (lvO g x)).heap.size = w.heap.size + 1) := ⟨World.size_alloc _ _⟩
  unfold overB
  generalize wholeB l x = bw at cW
  obtain ⟨xp, xl, xb, xc⟩ := x
  simp only at c0 c1 c2 c3 ⊢
  generalize hW : w.alloc (lvO g ⟨xp, xl, xb, xc⟩) = W at cW c0 c1 c2 c3 hB hsz
  simp only [lvO] at hW
  have K : Hid (∀ W', Below W.heap.size W W' → W'.cell? ⟨w.heap.size, 1, none⟩ = some (.int .i64 xl)) := ⟨fun W' h => (h.cell (p := ⟨w.heap.size, 1, none⟩) (by show w.heap.size < W.heap.size; have := hsz.out; omega)).trans c1⟩
  clear hr hb
  cases bw with
  | false =>
    go_enter Tryd.func17, Tryd.ntmps17
    go_wp2_with (go_at_call 29; refine cW.mono ?_; rintro _ w1 ⟨rfl, hb1⟩; replace hb1 : Hid _ := ⟨hb1⟩)
    go_ret
    exact ⟨rfl, hB.out.trans (hb1.out.mono hB.out.size)⟩
  | true =>
    by_cases h0 : xl = 0
    · have b1 : (xl == 0) = true := by simp [h0]
      have HB : Hid (decide (xl = 0) = true) := ⟨by simp [h0]⟩
      clear h0
      go_enter Tryd.func17, Tryd.ntmps17
      go_wp2_with (go_at_call 29; refine cW.mono ?_; rintro _ w1 ⟨rfl, hb1⟩; have k1 := K.out _ hb1; replace hb1 : Hid _ := ⟨hb1⟩)
      go_ret
      exact ⟨rb (by rw [HB.out]; rfl), hB.out.trans (hb1.out.mono hB.out.size)⟩
    · have b1 : (xl == 0) = false := by simp [h0]
      have HB : Hid (decide (xl = 0) = false) := ⟨by simp [h0]⟩
      clear h0
      go_enter Tryd.func17, Tryd.ntmps17
      go_wp2_with (go_at_call 29; refine cW.mono ?_; rintro _ w1 ⟨rfl, hb1⟩; have k1 := K.out _ hb1; replace hb1 : Hid _ := ⟨hb1⟩)
      go_ret
      exact ⟨rb (by rw [HB.out]; rfl), hB.out.trans (hb1.out.mono hB.out.size)⟩
/-- What is open of zs, the innermost first. -/
def tops (zs : List (Nat × Lv)) (k : Nat) : List Lv := (zs.take k).reverse.map Prod.snd
theorem tops_succ {zs : List (Nat × Lv)} {k : Nat} {y : Nat × Lv} (h : zs[k]? = some y) : tops zs (k + 1) = y.2 :: tops zs k := by
  unfold tops
  rw [List.take_add_one, h]
  simp
/-- The parts of what is open, as isOver asks them. -/
def RwA (l : List Tk) (W : World) (a : Nat) (zs : List (Nat × Lv)) : Prop := ∀ y ∈ zs, RwC W y.1 (rowZ l y.2.p).length ∧ y.1 ≠ a
theorem RwA.kb {l : List Tk} {W W' : World} {a : Nat} {zs : List (Nat × Lv)} (h : RwA l W a zs) (hb : Kb [a] W W') : RwA l W' a zs := fun y hy => by
  obtain ⟨⟨⟨pr, cr, e⟩, h2⟩, h3⟩ := h y hy
  exact ⟨⟨⟨pr, cr, (cell_blk (hb.block y.1 h2 (by simpa using h3))).trans e⟩, Nat.lt_of_lt_of_le h2 hb.size⟩, h3⟩
theorem SM.kb {W W' : World} {a go cap k : Nat} {zs : List (Nat × Lv)} {ent : Int} (h : SM W a go cap k zs ent) {k' : Nat} (hc : W'.heap[a]? = some (.cells #[.slice (some ⟨go, 0, none⟩) k' cap, .int .i64 ent] 64)) (hb : Kb [a] W W') (h1 : 0 < k') (h2 : k' ≤ k) : SM W' a go cap k' zs ent :=
  ⟨hc, h.o.same (hb.block go h.lt.2 (by simpa using h.ne.symm)), Nat.le_trans h2 h.kl, h1, h.ne, h.zl⟩
set_option maxRecDepth 20000 in
set_option maxHeartbeats 4000000 in
theorem leave_any (l : List Tk) (a go cap k : Nat) (zs : List (Nat × Lv)) (ent : Int) (w : World) (h : SM w a go cap k zs ent) (hp : RwA l w a zs) :
    Calls Tryd.prog 19 #[.pointer (some ⟨a, 0, none⟩)] w fun r w' => r = .returned (.tuple #[]) ∧ ∃ k', SM w' a go cap k' zs ent ∧ Kb [a] w w' ∧ leaveR l (tops zs k) = tops zs k' ∧ k' ≤ k := by
  have hcl : zs.length ≤ cap := by obtain ⟨cur, _, h2, _⟩ := h.o; exact h2
  have hzl := h.zl
  go_enter Tryd.func19, Tryd.ntmps19
  go_wp2_with fail
  go_loopw [2] (fun _ wr => ∃ j : Nat, j ≤ k ∧ Hid (SM wr a go cap j zs ent ∧ Kb [a] w wr ∧ leaveR l (tops zs k) = leaveR l (tops zs j))) (fun _ wr => match wr.cell? ⟨a, 0, none⟩ with | some (.slice _ n _) => n | _ => 0)
  case atStart => exact ⟨k, Nat.le_refl _, ⟨h, Kb.of_below (Below.refl _ _), rfl⟩⟩
  case round =>
    obtain ⟨j, hj, hI⟩ := hrel
    obtain ⟨hS, hK, hL⟩ := hI.out
    clear hI
    obtain ⟨n, rfl⟩ : ∃ n, j = n + 1 := ⟨j - 1, by have := hS.k1; omega⟩
    have c0 := hS.c0
    have hn : n < 1000000000000 := by have := hS.kl; omega
    obtain ⟨y, hy⟩ : ∃ y, zs[n]? = some y := ⟨zs[n]'(by have := hS.kl; omega), List.getElem?_eq_getElem (by have := hS.kl; omega)⟩
    rw [tops_succ hy] at hL
    by_cases h1 : n = 0
    · subst h1
      have b1 : decide ((((0 + 1 : Nat) : Nat) : Int) > 1) = false := by decide
      have hL' : Hid (leaveR l (tops zs k) = tops zs (0 + 1)) := ⟨by rw [hL, tops_succ hy]; rfl⟩
      have HS : Hid _ := ⟨hS⟩
      have HK : Hid _ := ⟨hK⟩
      clear hS hK hL hp h hy
      go_wp2_with fail
      refine bodyPost_end (v := .tuple #[]) (results_none (by rfl) _ _ _) rfl ⟨rfl, 0 + 1, HS.out, HK.out, hL'.out, hj⟩
    · obtain ⟨n, rfl⟩ : ∃ m, n = m + 1 := ⟨n - 1, by omega⟩
      have b1 : decide (((n + 1 + 1 : Nat) : Int) > 1) = true := by simp; omega
      obtain ⟨y', hy'⟩ : ∃ y', zs[n]? = some y' := ⟨zs[n]'(by have := hS.kl; omega), List.getElem?_eq_getElem (by have := hS.kl; omega)⟩
      have cT := otop_any a go (n + 1) cap wr c0 hn
      have hpw := hp.kb hK
      have hyp := hpw y (List.mem_of_getElem? hy)
      have K : Hid (∀ W, Below wr.heap.size wr W → W.cell? ⟨go, (n + 1) * 4, none⟩ = some (.pointer (some ⟨y.1, 0, none⟩)) ∧ W.cell? ⟨go, (n + 1) * 4 + 1, none⟩ = some (.int .i64 y.2.left) ∧ W.cell? ⟨go, (n + 1) * 4 + 2, none⟩ = some (.bool y.2.begun) ∧ W.cell? ⟨go, (n + 1) * 4 + 3, none⟩ = some (.int .i64 (y.2.come : Int)) ∧ RwC W y.1 (rowZ l y.2.p).length ∧ SM W a go cap (n + 1 + 1) zs ent ∧ Kb [a] w W) := ⟨fun W hb =>
        have hS' := hS.below hb
        ⟨hS'.o.at hy 0 (by omega), hS'.o.at hy 1 (by omega), hS'.o.at hy 2 (by omega), hS'.o.at hy 3 (by omega), hyp.1.below hb, hS', hK.trans (Kb.of_below hb)⟩⟩
      have cO := fun W (hb : Below wr.heap.size wr W) => isOver_any l y.1 y.2 W (K.out W hb).2.2.2.2.1
      cases hv : overB l y.2 with
      | false =>
        rw [hv] at cO
        have hL' : Hid (leaveR l (tops zs k) = tops zs (n + 1 + 1)) := ⟨by rw [hL, tops_succ hy, leave_stay (fun e => by rw [hv] at e; exact absurd e.1 (by decide))]⟩
        replace cO : Hid _ := ⟨cO⟩
        clear hS hK hL hp h hy hpw hyp hv hy'
        go_wp2_with (first
          | (go_at_call 20; refine cT.mono ?_; rintro _ w1 ⟨rfl, hb1⟩; obtain ⟨t0, t1, t2, t3, -, -, -⟩ := K.out w1 hb1)
          | (go_at_call 17; refine (cO.out w1 hb1).mono ?_; rintro _ w2 ⟨rfl, hb2⟩; have hb3 : Hid (Below wr.heap.size wr w2) := ⟨hb1.trans (hb2.mono hb1.size)⟩))
        obtain ⟨-, -, -, -, -, hS2, hK2⟩ := K.out w2 hb3.out
        exact bodyPost_end (v := .tuple #[]) (results_none (by rfl) _ _ _) rfl ⟨rfl, n + 1 + 1, hS2, hK2, hL'.out, hj⟩
      | true =>
        rw [hv] at cO
        replace cO : Hid _ := ⟨cO⟩
        have hL' : Hid (leaveR l (tops zs k) = leaveR l (tops zs (n + 1))) := ⟨by rw [hL, tops_succ hy', leave_more hv]⟩
        have cP := fun W (hb : Below wr.heap.size wr W) => opop_any a go (n + 1) cap ent W (K.out W hb).2.2.2.2.2.1.c (by omega) (by have := hS.kl; omega)
        replace cP : Hid _ := ⟨cP⟩
        have hne := hS.ne
        clear hS hK hL hp h hy hpw hyp hv hy'
        go_wp2_with (first
          | (go_at_call 20; refine cT.mono ?_; rintro _ w1 ⟨rfl, hb1⟩; obtain ⟨t0, t1, t2, t3, -, -, -⟩ := K.out w1 hb1)
          | (go_at_call 17; refine (cO.out w1 hb1).mono ?_; rintro _ w2 ⟨rfl, hb2⟩; have hb3 : Hid (Below wr.heap.size wr w2) := ⟨hb1.trans (hb2.mono hb1.size)⟩)
          | (go_at_call 34; refine (cP.out w2 hb3.out).mono ?_; rintro _ w3 ⟨rfl, hc3, hk3⟩; replace hk3 : Hid _ := ⟨hk3⟩; have q3 := cell_at hc3 0; replace hc3 : Hid _ := ⟨hc3⟩))
        obtain ⟨-, -, -, -, -, hS2, hK2⟩ := K.out w2 hb3.out
        exact ⟨⟨n + 1, by omega, ⟨hS2.kb hc3.out hk3.out (by omega) (by omega), hK2.trans hk3.out, hL'.out⟩⟩, by rw [q3, c0]; simp⟩
end Go.Proofs.YtepnmfgbflogkaaDoor

/- IYm, OrM, IKd, OrN, PKind, PFace. -/
import Derived.Test.YtepnmfgbflogkaaDoorF02
import Derived.Test.YtepnmfgbflogkaaDoorProg
import Derived.Test.YtepnmfgbflogkaaDoorF01
import Derived.WalkKit
import Derived.WalkSpells
import Derived.WalkLawsBesides
import Derived.ProofKit
import Derived.OpenShut
import Derived.Laws.BitsAllLaws
namespace Go.Proofs.YtepnmfgbflogkaaDoor

/-- Is it a form, and has it a token at a place? -/
def isAtB (f : Fm) (i : Int) : Bool := decide (0 ≤ i ∧ i < f.toks.length) && decide (chkZ f = none)
/-- What begins at a place, in a form that is one, and ends at n. -/
structure BegAt (f : Fm) (i : Int) (b n : Nat) (t : Tk) : Prop where
  z : chkZ f = none
  ei : i = (b : Int)
  et : f.toks[b]? = some t
  en : t.pair = (n : Int)
  nl : n < f.toks.length
  bn : b < n
/-- No token at the place i of a form is such. -/
structure NotAt (f : Fm) (i : Int) (p : Tk → Bool) : Prop where
  h : isAtB f i = true → ∃ (b : Nat) (t : Tk), i = b ∧ f.toks[b]? = some t ∧ p t = false
def holdB (t : Tk) : Bool := decide (t.op = 0 ∨ t.op = 4)
def leafB (t : Tk) : Bool := decide (t.op = 2 ∧ ¬ t.pres = 2)
def lvB (t : Tk) : Bool := decide (t.op = 14 ∧ ¬ t.pres = 2)
/-- The leaves among m tokens from k on. -/
def lvF (l : List Tk) : Nat → Nat → List Nat
  | _, 0 => []
  | k, m + 1 => (if (l[k]?).any lvB = true then [k] else []) ++ lvF l (k + 1) m
theorem lvF_length (l : List Tk) : ∀ m k, (lvF l k m).length ≤ m
  | 0, _ => Nat.le_refl _
  | m + 1, k => by
    rw [lvF, List.length_append]
    have := lvF_length l m (k + 1)
    split <;> simp <;> omega
theorem lvF_yes {l : List Tk} {k m : Nat} {u : Tk} (hu : l[k]? = some u) (h : lvB u = true) : lvF l k (m + 1) = [k] ++ lvF l (k + 1) m := by
  rw [lvF, if_pos (by rw [hu]; exact h)]
theorem lvF_no {l : List Tk} {k m : Nat} {u : Tk} (hu : l[k]? = some u) (h : lvB u = false) : lvF l k (m + 1) = lvF l (k + 1) m := by
  rw [lvF, if_neg (by rw [hu]; show ¬ lvB u = true; rw [h]; decide), List.nil_append]
theorem rise_from : ∀ {ks : List Nat} {lo n : Nat}, ks.Pairwise (· < ·) → (∀ k ∈ ks, lo ≤ k ∧ k < n) → ks.length ≤ n - lo
  | [], _, _, _, _ => Nat.zero_le _
  | k :: r, lo, n, h, hn => by
    obtain ⟨h1, h2⟩ := List.pairwise_cons.1 h
    have := rise_from (lo := k + 1) (n := n) h2 (fun j hj => ⟨h1 j hj, (hn j (List.mem_cons_of_mem _ hj)).2⟩)
    have := hn k (List.mem_cons_self ..)
    simp only [List.length_cons]
    omega
theorem rise_length {ks : List Nat} {n : Nat} (h : ks.Pairwise (· < ·)) (hn : ∀ k ∈ ks, k < n) : ks.length ≤ n := rise_from (lo := 0) h fun k hk => ⟨Nat.zero_le _, hn k hk⟩
/-- The parts right inside what begins at i. -/
def PartsOf (f : Fm) (i : Int) (ks : List Nat) : Prop :=
  (∃ b n t, BegAt f i b n t ∧ holdB t = true ∧ Chn f.toks (b + 1) ks n ∧ (∀ k ∈ ks, b < k ∧ k < n) ∧ ks.Pairwise (· < ·)) ∨ (NotAt f i holdB ∧ ks = [])
/-- The leaves of the field that begins at i. -/
def LeavesOf (f : Fm) (i : Int) (ks : List Nat) : Prop :=
  (∃ b n t, BegAt f i b n t ∧ leafB t = true ∧ ks = lvF f.toks (b + 1) (n - (b + 1))) ∨ (NotAt f i leafB ∧ ks = [])
theorem isAt_iff {f : Fm} {i : Int} : isAtB f i = true ↔ chkZ f = none ∧ ∃ (b : Nat) (t : Tk), i = b ∧ f.toks[b]? = some t := by
  unfold isAtB
  rw [Bool.and_eq_true, decide_eq_true_iff, decide_eq_true_iff]
  constructor
  · rintro ⟨⟨h0, h1⟩, h2⟩
    refine ⟨h2, i.toNat, f.toks[i.toNat]'(by omega), by omega, List.getElem?_eq_getElem _⟩
  · rintro ⟨h2, b, t, rfl, ht⟩
    have := (List.getElem?_eq_some_iff.1 ht).1
    exact ⟨⟨by omega, by omega⟩, h2⟩
theorem begAt_of {f : Fm} {b : Nat} {t : Tk} (hz : chkZ f = none) (ht : f.toks[b]? = some t) (hg : bgO t.op = true) : ∃ n ks, BegAt f b b n t ∧ Chn f.toks (b + 1) ks n ∧ (∀ k ∈ ks, b < k ∧ k < n) ∧ ks.Pairwise (· < ·) := by
  obtain ⟨n, ks, h1, h2, h3, h4, h5⟩ := valid_kids hz ht hg
  refine ⟨n, ks, ⟨hz, rfl, ht, h1, h2, ?_⟩, h3, h4, h5⟩
  cases ks with
  | nil => have : b + 1 = n := h3; omega
  | cons k r => have := h4 k (List.mem_cons_self ..); omega
theorem parts_ex (f : Fm) (i : Int) : ∃ ks, PartsOf f i ks := by
  cases h : isAtB f i with
  | false => exact ⟨[], .inr ⟨⟨fun e => by rw [h] at e; cases e⟩, rfl⟩⟩
  | true =>
    obtain ⟨hz, b, t, rfl, ht⟩ := isAt_iff.1 h
    cases hp : holdB t with
    | false => exact ⟨[], .inr ⟨⟨fun _ => ⟨b, t, rfl, ht, hp⟩⟩, rfl⟩⟩
    | true =>
      have hb : bgO t.op = true := by
        unfold holdB at hp
        rcases of_decide_eq_true hp with h | h <;> rw [h] <;> rfl
      obtain ⟨n, ks, h1, h2⟩ := begAt_of hz ht hb
      exact ⟨ks, .inl ⟨b, n, t, h1, hp, h2⟩⟩
theorem leaves_ex (f : Fm) (i : Int) : ∃ ks, LeavesOf f i ks := by
  cases h : isAtB f i with
  | false => exact ⟨[], .inr ⟨⟨fun e => by rw [h] at e; cases e⟩, rfl⟩⟩
  | true =>
    obtain ⟨hz, b, t, rfl, ht⟩ := isAt_iff.1 h
    cases hp : leafB t with
    | false => exact ⟨[], .inr ⟨⟨fun _ => ⟨b, t, rfl, ht, hp⟩⟩, rfl⟩⟩
    | true =>
      have hb : bgO t.op = true := by
        unfold leafB at hp
        rw [(of_decide_eq_true hp).1]; rfl
      obtain ⟨n, ks, h1, h2⟩ := begAt_of hz ht hb
      exact ⟨_, .inl ⟨b, n, t, h1, hp, rfl⟩⟩
theorem parts_len {f : Fm} {i : Int} {ks : List Nat} (h : PartsOf f i ks) : ks.length ≤ f.toks.length := by
  rcases h with ⟨b, n, t, h1, _, _, h2, h3⟩ | ⟨_, rfl⟩
  · have := rise_length h3 (fun k hk => (h2 k hk).2); have := h1.nl; omega
  · exact Nat.zero_le _
theorem leaves_len {f : Fm} {i : Int} {ks : List Nat} (h : LeavesOf f i ks) : ks.length ≤ f.toks.length := by
  rcases h with ⟨b, n, t, h1, _, rfl⟩ | ⟨_, rfl⟩
  · have := lvF_length f.toks (n - (b + 1)) (b + 1); have := h1.nl; omega
  · exact Nat.zero_le _
end Go.Proofs.YtepnmfgbflogkaaDoor
namespace Go.Proofs.YtepnmfgbflogkaaDoor

/-- From k on, one behind the other, up to n. -/
def kidF (l : List Tk) (n : Nat) : Nat → Nat → List Nat
  | 0, _ => []
  | m + 1, k => if k < n then k :: kidF l n m ((match l[k]? with | some t => t.pair.toNat | none => 0) + 1) else []
/-- What stands right inside what begins at p. -/
def kidsZ (l : List Tk) (p : Nat) : List Nat := match l[p]? with | some t => kidF l t.pair.toNat l.length (p + 1) | none => []
theorem kidF_chn {l : List Tk} {n : Nat} : ∀ {ks : List Nat} {k m : Nat}, Chn l k ks n → (∀ j ∈ ks, j < n) → ks.length ≤ m → kidF l n m k = ks
  | [], k, m, h, _, _ => by
    have h : k = n := h
    subst h
    cases m with
    | zero => rfl
    | succ m => rw [kidF, if_neg (Nat.lt_irrefl _)]
  | j :: r, k, m, h, hn, hl => by
    obtain ⟨rfl, t, q, ht, hq, h2⟩ := h
    cases m with
    | zero => cases hl
    | succ m =>
      rw [kidF, if_pos (hn k (List.mem_cons_self ..)), ht]
      simp only [hq, Int.toNat_natCast]
      rw [kidF_chn h2 (fun j hj => hn j (List.mem_cons_of_mem _ hj)) (by simpa using hl)]
/-- What begins at p, in a form that is one: where it ends, what stands right inside. -/
structure Bgn (l : List Tk) (p n : Nat) (t : Tk) (ks : List Nat) : Prop where
  et : l[p]? = some t
  en : t.pair = (n : Int)
  nl : n < l.length
  bn : p < n
  ch : Chn l (p + 1) ks n
  kn : ∀ k ∈ ks, p < k ∧ k < n
  up : ks.Pairwise (· < ·)
theorem Bgn.kids {l : List Tk} {p n : Nat} {t : Tk} {ks : List Nat} (h : Bgn l p n t ks) : kidsZ l p = ks := by
  unfold kidsZ
  rw [h.et]
  simp only [h.en, Int.toNat_natCast]
  refine kidF_chn h.ch (fun j hj => (h.kn j hj).2) ?_
  have := rise_length h.up (fun k hk => (h.kn k hk).2)
  have := h.nl
  omega
theorem bgn_of {f : Fm} {b : Nat} {t : Tk} (hz : chkZ f = none) (ht : f.toks[b]? = some t) (hg : bgO t.op = true) : ∃ n ks, Bgn f.toks b n t ks := by
  obtain ⟨n, ks, h1, h2, h3, h4⟩ := begAt_of hz ht hg
  exact ⟨n, ks, ⟨ht, h1.en, h1.nl, h1.bn, h2, h3, h4⟩⟩
def opAt (l : List Tk) (i : Nat) : Int := match l[i]? with | some t => t.op | none => 0
def nmAt (l : List Tk) (i : Nat) : ByteArray := match l[i]? with | some t => t.name | none => ⟨#[]⟩
def bpAt (l : List Tk) (i : Nat) : Int := match l[i]? with | some t => t.b.p | none => 0
/-- Has the field at i a leaf? -/
def calledB (l : List Tk) (i : Nat) : Bool := match l[i]? with | some t => !decide (t.pres = 2) && !(lvF l (i + 1) (t.pair.toNat - (i + 1))).isEmpty | none => false
/-- The groups and data right inside what begins at p. -/
def rowZ (l : List Tk) (p : Nat) : List Nat := (kidsZ l p).filter fun i => !decide (opAt l i = 2)
/-- The fields right inside it that are called. -/
def fldZ (l : List Tk) (p : Nat) : List Nat := (kidsZ l p).filter fun i => decide (opAt l i = 2) && calledB l i
def gmax (p : Int) : Int := if p = 5 then 254 else if p = 6 then 65534 else 4294967294
/-- The kind of the call that a part wants. -/
def knd (op : Int) : Int := if op = 6 then 3 else 1
/-- One that is open. -/
structure Lv where
  p : Nat
  left : Int
  begun : Bool
  come : Nat
/-- The machine: what is open, the innermost first; the entries that were called. -/
structure Ms where
  op : List Lv
  ent : Int
def wholeB (l : List Tk) (x : Lv) : Bool := x.begun && decide (x.come = (rowZ l x.p).length)
def overB (l : List Tk) (x : Lv) : Bool := wholeB l x && decide (x.left = 0)
def leaveR (l : List Tk) : List Lv → List Lv
  | [] => []
  | [x] => [x]
  | x :: y :: r => if overB l x = true then leaveR l (y :: r) else x :: y :: r
def fieldB (l : List Tk) (x : Lv) (nm : ByteArray) : Bool := x.begun && decide (x.come = 0) && (fldZ l x.p).any fun i => decide (nmAt l i = nm)
/-- The member of the row that must come next, if a call is its own. -/
def memZ (l : List Tk) (x : Lv) (k : Int) (nm : ByteArray) : Option Nat :=
  if x.begun = true then match (rowZ l x.p)[x.come]? with
    | some q => if knd (opAt l q) = k ∧ nmAt l q = nm then some q else none
    | none => none
  else none
/-- What a call does: the error, the machine. -/
def stepZ (l : List Tk) (s : Ms) (k cnt : Int) (nm : ByteArray) : Int × Ms :=
  if k < 0 ∨ 4 ≤ k then (140, s) else
  match (if k = 0 then s.op else leaveR l s.op) with
  | [] => (140, s)
  | x :: r =>
    if k = 0 then (if fieldB l x nm = true then 0 else 140, s)
    else if k = 2 then (if x.left = 0 ∨ (x.begun = true ∧ wholeB l x = false) then (140, s) else (0, ⟨⟨x.p, x.left - 1, true, 0⟩ :: r, s.ent⟩))
    else match memZ l x k nm with
      | none => (140, s)
      | some q =>
        if k = 3 then (0, ⟨⟨x.p, x.left, x.begun, x.come + 1⟩ :: r, s.ent⟩)
        else if cnt < 0 ∨ gmax (bpAt l q) < cnt then (141, s)
        else if 65536 - s.ent < cnt then (163, s)
        else (0, ⟨(if 0 < cnt then [⟨q, cnt, false, 0⟩] else []) ++ ⟨x.p, x.left, x.begun, x.come + 1⟩ :: r, s.ent + cnt⟩)
def doneB (l : List Tk) (s : Ms) : Bool := s.op.all (overB l)
def insZ (s : Ms) : Nat := match s.op with
  | [] => 0
  | x :: r => if x.begun = true then x.p else match r with | [] => x.p | y :: _ => y.p
/-- What is left of each group that is open, the outermost first. -/
def leftZ (s : Ms) : List Int := (s.op.reverse.map Lv.left).drop 1
def newZ : Ms := ⟨[⟨0, 0, true, 0⟩], 0⟩
/-- What holds of every machine: the places are those of blocks, the numbers fit. -/
structure LvOk (l : List Tk) (x : Lv) : Prop where
  op : opAt l x.p = 0 ∨ opAt l x.p = 4
  le : x.come ≤ (rowZ l x.p).length
  l0 : 0 ≤ x.left
  l1 : x.left ≤ 65536
/-- The outermost is the message. -/
def botB : List Lv → Prop
  | [] => True
  | [x] => x.left = 0 ∧ x.begun = true
  | _ :: y :: r => botB (y :: r)
theorem botB_cons {x y : Lv} {r : List Lv} : botB (x :: y :: r) ↔ botB (y :: r) := Iff.rfl
theorem botB_head {x x' : Lv} {r : List Lv} (h : botB (x :: r)) (h0 : r = [] → x'.left = 0 ∧ x'.begun = true) : botB (x' :: r) := by
  cases r with
  | nil => exact h0 rfl
  | cons y r => exact h
theorem botB_leave (l : List Tk) : ∀ {o : List Lv}, botB o → botB (leaveR l o)
  | [], h => h
  | [_], h => h
  | x :: y :: r, h => by
    rw [leaveR]
    split
    · exact botB_leave l (o := y :: r) h
    · exact h
structure MsOk (l : List Tk) (s : Ms) : Prop where
  ne : s.op ≠ []
  all : ∀ x ∈ s.op, LvOk l x
  e0 : 0 ≤ s.ent
  e1 : s.ent ≤ 65536
  bot : ∀ x r, s.op = x :: r → x.begun = false → r ≠ []
  fst : ∀ x ∈ s.op.tail, x.begun = true
  len : s.op.length ≤ 1 + s.ent.toNat
  bt : botB s.op
end Go.Proofs.YtepnmfgbflogkaaDoor
namespace Go.Proofs.YtepnmfgbflogkaaDoor

/-- Each of ks was taken right inside what begins at b, behind those ahead of it. -/
def Took (f : Fm) (b : Nat) (t : Tk) (ks : List Nat) : Prop := ∀ (j k : Nat) (u : Tk), ks[j]? = some k → f.toks[k]? = some u → ∃ (x : Sc) (o : List Sc) (ids : List Int), x.at_ = b ∧ x.tk = t ∧ x.kids = ks.take j ∧ inOk f (x :: o) ids k x u = true ∧ edO u.op = false
theorem took_nil (f : Fm) (b : Nat) (t : Tk) : Took f b t [] := fun j k u h => by simp at h
theorem took_snoc {f : Fm} {b i : Nat} {t u : Tk} {ks : List Nat} (h : Took f b t ks) (hu : f.toks[i]? = some u) {x : Sc} {o : List Sc} {ids : List Int} (h1 : x.at_ = b) (h2 : x.tk = t) (h3 : x.kids = ks) (h4 : inOk f (x :: o) ids i x u = true) (h5 : edO u.op = false) : Took f b t (ks ++ [i]) := by
  intro j k v hj hv
  rcases Nat.lt_or_ge j ks.length with hl | hl
  · rw [List.getElem?_append_left hl] at hj
    obtain ⟨y, o', ids', e1, e2, e3, e4⟩ := h j k v hj hv
    exact ⟨y, o', ids', e1, e2, by rw [List.take_append_of_le_length (by omega)]; exact e3, e4⟩
  · rw [List.getElem?_append_right hl] at hj
    have hj0 : j - ks.length = 0 := by
      rcases Nat.eq_zero_or_pos (j - ks.length) with e | e
      · exact e
      · rw [List.getElem?_eq_none (by simp; omega)] at hj; cases hj
    rw [hj0] at hj
    cases hj
    rw [hu] at hv
    cases hv
    exact ⟨x, o, ids, h1, h2, by rw [h3, show j = ks.length by omega, List.take_left], h4, h5⟩
def TkO (f : Fm) (o : List Sc) : Prop := ∀ x ∈ o, Took f x.at_ x.tk x.kids
/-- What begins ahead of i is open, or it has ended. -/
def Cl2 (f : Fm) (i : Nat) (o : List Sc) : Prop := ∀ b t, b < i → f.toks[b]? = some t → bgO t.op = true → (∃ x ∈ o, x.at_ = b) ∨ ∃ (n : Nat) (ks : List Nat), t.pair = (n : Int) ∧ n < i ∧ Chn f.toks (b + 1) ks n ∧ (∀ k ∈ ks, b < k ∧ k < n) ∧ ks.Pairwise (· < ·) ∧ Took f b t ks
theorem tko_step {f : Fm} {s : St} {i : Nat} {t : Tk} (ht : f.toks[i]? = some t) (h : okZ f s i t = true) (hs : TkO f s.open_) : TkO f (nxt s i t).open_ := by
  obtain ⟨o, ids⟩ := s
  intro y hy
  unfold nxt at hy
  by_cases he : edO t.op = true
  · rw [if_pos he] at hy
    exact hs y (List.mem_of_mem_tail hy)
  · rw [if_neg he] at hy
    have key : ∀ y ∈ metL o i t, Took f y.at_ y.tk y.kids := fun y hy => by
      rcases o with _ | ⟨x, o⟩
      · cases hy
      · rcases List.mem_cons.1 hy with rfl | hy
        · exact took_snoc (x := x) (o := o) (ids := ids) (hs x (List.mem_cons_self ..)) ht rfl rfl rfl h (by simpa using he)
        · exact hs y (List.mem_cons_of_mem _ hy)
    have hy : y ∈ (if bgO t.op = true then scNew i t :: metL o i t else metL o i t) := hy
    split at hy
    · rcases List.mem_cons.1 hy with rfl | hy
      · exact took_nil _ _ _
      · exact key y hy
    · exact key y hy
theorem cl2_step {f : Fm} {s : St} {i : Nat} {t : Tk} (H : Inv f i s) (ht : f.toks[i]? = some t) (h : okZ f s i t = true) (hs : Srt s.open_) (hk : TkO f s.open_) (hc : Cl2 f i s.open_) : Cl2 f (i + 1) (nxt s i t).open_ := by
  obtain ⟨o, ids⟩ := s
  intro b u hb hu hg
  have hb' : b < i ∨ b = i := by omega
  rcases o with _ | ⟨x, o⟩
  · obtain ⟨hi, ho, _⟩ := okZ_nil h
    rcases hb' with hb' | rfl
    · omega
    · have hbg : bgO t.op = true := by rw [ho]; rfl
      refine .inl ⟨scNew b t, ?_, rfl⟩
      unfold nxt
      rw [if_neg (by rw [bgO_end hbg]; decide), if_pos hbg]
      exact List.mem_cons_self ..
  · have hx := H.all x (List.mem_cons_self ..)
    have h : inOk f (x :: o) ids i x t = true := h
    cases he : edO t.op with
    | true =>
      obtain ⟨_, _, _, h1, h2⟩ := inOk_end h he
      have e : (nxt ⟨x :: o, ids⟩ i t).open_ = o := by unfold nxt; rw [if_pos he]; rfl
      rw [e]
      rcases hb' with hb' | rfl
      · rcases hc b u hb' hu hg with ⟨y, hy, hyb⟩ | ⟨n, ks, h3, h4, h5, h6⟩
        · rcases List.mem_cons.1 hy with rfl | hy
          · subst hyb
            have := hx.tk
            rw [hu] at this
            cases this
            exact .inr ⟨i, y.kids, h2, Nat.lt_succ_self _, H.nest.1, fun k hk => hx.kid k hk, hs y (List.mem_cons_self ..), hk y (List.mem_cons_self ..)⟩
          · exact .inl ⟨y, hy, hyb⟩
        · exact .inr ⟨n, ks, h3, by omega, h5, h6⟩
      · rw [ht] at hu
        cases hu
        rw [bgO_end hg] at he
        cases he
    | false =>
      have e : ∀ y ∈ metX x i t :: o, y ∈ (nxt ⟨x :: o, ids⟩ i t).open_ := fun y hy => by
        unfold nxt
        rw [if_neg (by rw [he]; decide)]
        show y ∈ (if bgO t.op = true then scNew i t :: metX x i t :: o else metX x i t :: o)
        split
        · exact List.mem_cons_of_mem _ hy
        · exact hy
      rcases hb' with hb' | rfl
      · rcases hc b u hb' hu hg with ⟨y, hy, hyb⟩ | ⟨n, ks, h3, h4, h5, h6⟩
        · rcases List.mem_cons.1 hy with rfl | hy
          · exact .inl ⟨metX y i t, e _ (List.mem_cons_self ..), hyb⟩
          · exact .inl ⟨y, e _ (List.mem_cons_of_mem _ hy), hyb⟩
        · exact .inr ⟨n, ks, h3, by omega, h5, h6⟩
      · rw [ht] at hu
        cases hu
        refine .inl ⟨scNew b t, ?_, rfl⟩
        unfold nxt
        rw [if_neg (by rw [he]; decide), if_pos hg]
        exact List.mem_cons_self ..
theorem run_cl2 {f : Fm} : ∀ (r : List Tk) (i : Nat) (s : St), r = f.toks.drop i → i ≤ f.toks.length → Inv f i s → Srt s.open_ → TkO f s.open_ → Cl2 f i s.open_ → runZ f r i s = none → Cl2 f f.toks.length [] := by
  intro r
  induction r with
  | nil =>
    intro i s hr hi H hs hk hc hz
    rw [runZ] at hz
    split at hz
    · cases hz
    · rename_i hn
      have h0 : s.open_ = [] := Decidable.byContradiction fun e => hn (.inr e)
      have : i = f.toks.length := by
        have := congrArg List.length hr
        rw [List.length_drop] at this
        simp at this
        omega
      subst this
      rwa [h0] at hc
  | cons t r ih =>
    intro i s hr hi H hs hk hc hz
    have hlt : i < f.toks.length := by
      have := congrArg List.length hr
      rw [List.length_drop] at this
      simp at this
      omega
    have ht : f.toks[i]? = some t := by
      have := congrArg (fun l => l[0]?) hr
      simp at this
      exact this.symm
    have hr' : r = f.toks.drop (i + 1) := by
      have := congrArg List.tail hr
      simpa using this
    rw [runZ] at hz
    split at hz
    · rename_i hok
      exact ih (i + 1) _ hr' hlt (inv_step H ht hok) (srt_step H hs) (tko_step ht hok hk) (cl2_step H ht hok hs hk hc) hz
    · cases hz
/-- In a form that is one: what stands right inside what begins at b, and how it was taken. -/
theorem valid_took {f : Fm} (h : chkZ f = none) {b : Nat} {t : Tk} (ht : f.toks[b]? = some t) (hg : bgO t.op = true) : ∃ (n : Nat) (ks : List Nat), t.pair = (n : Int) ∧ n < f.toks.length ∧ Chn f.toks (b + 1) ks n ∧ (∀ k ∈ ks, b < k ∧ k < n) ∧ ks.Pairwise (· < ·) ∧ Took f b t ks := by
  unfold chkZ at h
  split at h
  · have hc := run_cl2 f.toks 0 ⟨[], []⟩ rfl (Nat.zero_le _) (inv_zero f) (fun x hx => by cases hx) (fun x hx => by cases hx) (fun b t hb => by omega) h
    rcases hc b t (List.getElem?_eq_some_iff.1 ht).1 ht hg with ⟨x, hx, _⟩ | h
    · cases hx
    · exact h
  · cases h
/-- The ops of what stands right inside a message or group. -/
theorem block_ops {f : Fm} {b : Nat} {t : Tk} {ks : List Nat} (h : Took f b t ks) (ho : t.op = 0 ∨ t.op = 4) {k : Nat} (hk : k ∈ ks) {u : Tk} (hu : f.toks[k]? = some u) : u.op = 2 ∨ u.op = 4 ∨ u.op = 6 := by
  obtain ⟨j, hj⟩ := List.getElem?_of_mem hk
  obtain ⟨x, o, ids, e1, e2, e3, e4, e5⟩ := h j k u hj hu
  obtain ⟨hm, _⟩ := inOk_in e4 e5
  unfold mayB at hm
  rw [e2, if_pos ho] at hm
  simp only [Bool.or_eq_true, Bool.and_eq_true, decide_eq_true_eq] at hm
  rcases hm with hm | ⟨hm, _⟩
  · exfalso
    rw [hm] at e5
    rcases ho with ho | ho <;> rw [ho] at e5 <;> exact absurd e5 (by decide)
  · unfold ptO at hm
    have hm := of_decide_eq_true hm
    omega
theorem first_msg {f : Fm} (h : chkZ f = none) : ∃ t, f.toks[0]? = some t ∧ t.op = 0 := by
  unfold chkZ at h
  split at h
  · cases hl : f.toks with
    | nil => rw [hl, runZ] at h; simp at h
    | cons t r =>
      rw [hl, runZ] at h
      split at h
      · rename_i hok
        exact ⟨t, rfl, (okZ_nil hok).2.1⟩
      · cases h
  · cases h
end Go.Proofs.YtepnmfgbflogkaaDoor
namespace Go.Proofs.YtepnmfgbflogkaaDoor

theorem bgn_took {f : Fm} {b : Nat} {t : Tk} (hz : chkZ f = none) (ht : f.toks[b]? = some t) (hg : bgO t.op = true) : ∃ n ks, Bgn f.toks b n t ks ∧ Took f b t ks := by
  obtain ⟨n, ks, h1, h2, h3, h4, h5, h6⟩ := valid_took hz ht hg
  refine ⟨n, ks, ⟨ht, h1, h2, ?_, h3, h4, h5⟩, h6⟩
  cases ks with
  | nil => have : b + 1 = n := h3; omega
  | cons k r => have := h4 k (List.mem_cons_self ..); omega
/-- A message or group of a form that is one. -/
structure Blk (f : Fm) (p n : Nat) (t : Tk) (ks : List Nat) : Prop where
  bg : Bgn f.toks p n t ks
  op : t.op = 0 ∨ t.op = 4
  kop : ∀ k ∈ ks, ∃ u, f.toks[k]? = some u ∧ (u.op = 2 ∨ u.op = 4 ∨ u.op = 6)
theorem blk_of {f : Fm} {p : Nat} {t : Tk} (hz : chkZ f = none) (ht : f.toks[p]? = some t) (ho : t.op = 0 ∨ t.op = 4) : ∃ n ks, Blk f p n t ks := by
  have hg : bgO t.op = true := by rcases ho with h | h <;> rw [h] <;> rfl
  obtain ⟨n, ks, h1, h2⟩ := bgn_took hz ht hg
  refine ⟨n, ks, h1, ho, fun k hk => ?_⟩
  have hkl : k < f.toks.length := by have := (h1.kn k hk).2; have := h1.nl; omega
  exact ⟨f.toks[k], List.getElem?_eq_getElem hkl, block_ops h2 ho hk (List.getElem?_eq_getElem hkl)⟩
theorem opAt_some {l : List Tk} {i : Nat} {t : Tk} (h : l[i]? = some t) : opAt l i = t.op := by unfold opAt; rw [h]
theorem nmAt_some {l : List Tk} {i : Nat} {t : Tk} (h : l[i]? = some t) : nmAt l i = t.name := by unfold nmAt; rw [h]
theorem bpAt_some {l : List Tk} {i : Nat} {t : Tk} (h : l[i]? = some t) : bpAt l i = t.b.p := by unfold bpAt; rw [h]
theorem Blk.row {f : Fm} {p n : Nat} {t : Tk} {ks : List Nat} (h : Blk f p n t ks) {q : Nat} (hq : q ∈ rowZ f.toks p) : ∃ u, f.toks[q]? = some u ∧ (u.op = 4 ∨ u.op = 6) ∧ p < q ∧ q < n := by
  unfold rowZ at hq
  rw [h.bg.kids] at hq
  obtain ⟨h1, h2⟩ := List.mem_filter.1 hq
  obtain ⟨u, hu, ho⟩ := h.kop q h1
  rw [opAt_some hu] at h2
  simp at h2
  exact ⟨u, hu, by omega, h.bg.kn q h1⟩
theorem rowZ_length {f : Fm} {p n : Nat} {t : Tk} {ks : List Nat} (h : Blk f p n t ks) : (rowZ f.toks p).length ≤ n := by
  unfold rowZ
  rw [h.bg.kids]
  have := List.length_filter_le (fun i => !decide (opAt f.toks i = 2)) ks
  have := rise_length h.bg.up (fun k hk => (h.bg.kn k hk).2)
  omega
theorem opAt_lt {l : List Tk} {p : Nat} (h : opAt l p = 4) : ∃ t, l[p]? = some t ∧ t.op = 4 := by
  unfold opAt at h
  split at h
  · exact ⟨_, by assumption, h⟩
  · cases h
/-- A level's block. -/
theorem LvOk.blk {f : Fm} {x : Lv} (hz : chkZ f = none) (h : LvOk f.toks x) (h0 : x.p < f.toks.length) : ∃ n t ks, Blk f x.p n t ks := by
  have ht : f.toks[x.p]? = some f.toks[x.p] := List.getElem?_eq_getElem h0
  have ho := h.op
  rw [opAt_some ht] at ho
  obtain ⟨n, ks, hb⟩ := blk_of hz ht ho
  exact ⟨n, _, ks, hb⟩
theorem leaveR_suffix (l : List Tk) : ∀ o : List Lv, ∃ a, o = a ++ leaveR l o ∧ (o ≠ [] → leaveR l o ≠ []) ∧ ∀ x ∈ a, overB l x = true
  | [] => ⟨[], rfl, fun h => h, fun x hx => by cases hx⟩
  | [x] => ⟨[], rfl, fun h => h, fun x hx => by cases hx⟩
  | x :: y :: r => by
    rw [leaveR]
    split
    · rename_i hx
      obtain ⟨a, h1, h2, h3⟩ := leaveR_suffix l (y :: r)
      refine ⟨x :: a, by rw [List.cons_append, ← h1], fun _ => h2 (by simp), fun z hz => ?_⟩
      rcases List.mem_cons.1 hz with rfl | hz
      · exact hx
      · exact h3 z hz
    · exact ⟨[], rfl, fun h => h, fun x hx => by cases hx⟩
theorem over_begun {l : List Tk} {x : Lv} (h : overB l x = true) : x.begun = true := by
  unfold overB wholeB at h
  simp only [Bool.and_eq_true] at h
  exact h.1.1
/-- What is open behind a leaving. -/
theorem leaveR_ok {l : List Tk} {s : Ms} (h : MsOk l s) : MsOk l ⟨leaveR l s.op, s.ent⟩ := by
  obtain ⟨a, h1, h2, h3⟩ := leaveR_suffix l s.op
  have hs : ∀ x ∈ leaveR l s.op, x ∈ s.op := fun x hx => by rw [h1]; exact List.mem_append_right _ hx
  refine ⟨h2 h.ne, fun x hx => h.all x (hs x hx), h.e0, h.e1, fun x r e hb => ?_, fun x hx => ?_, ?_, ?_⟩
  · cases a with
    | nil =>
      rw [List.nil_append] at h1
      exact h.bot x r (by rw [h1]; exact e) hb
    | cons y a =>
      have : x.begun = true := h.fst x (by rw [h1, List.cons_append, List.tail_cons]; have e' : leaveR l s.op = x :: r := e; rw [e']; simp)
      rw [hb] at this; cases this
  · refine h.fst x ?_
    have hx : x ∈ (leaveR l s.op).tail := hx
    rw [h1]
    cases a with
    | nil => exact hx
    | cons y a => rw [List.cons_append, List.tail_cons]; exact List.mem_append_right _ (List.mem_of_mem_tail hx)
  · have := h.len
    have e := congrArg List.length h1
    rw [List.length_append] at e
    show (leaveR l s.op).length ≤ 1 + s.ent.toNat
    omega
  · exact botB_leave l h.bt
theorem memZ_some {l : List Tk} {x : Lv} {k : Int} {nm : ByteArray} {q : Nat} (h : memZ l x k nm = some q) : x.begun = true ∧ (rowZ l x.p)[x.come]? = some q ∧ knd (opAt l q) = k ∧ nmAt l q = nm := by
  unfold memZ at h
  split at h
  · rename_i hb
    split at h
    · rename_i q' hq
      split at h
      · rename_i hk
        cases h
        exact ⟨hb, hq, hk⟩
      · cases h
    · cases h
  · cases h
/-- Places of blocks lie in the form. -/
def InF (l : List Tk) (s : Ms) : Prop := ∀ x ∈ s.op, x.p < l.length
theorem step_ok {f : Fm} (hz : chkZ f = none) {s : Ms} (h : MsOk f.toks s) (hi : InF f.toks s) (k cnt : Int) (nm : ByteArray) : MsOk f.toks (stepZ f.toks s k cnt nm).2 ∧ InF f.toks (stepZ f.toks s k cnt nm).2 := by
  have key : ∀ x r, leaveR f.toks s.op = x :: r → MsOk f.toks ⟨x :: r, s.ent⟩ ∧ InF f.toks ⟨x :: r, s.ent⟩ := fun x r e => by
    have := leaveR_ok h
    rw [e] at this
    obtain ⟨a, h1, _⟩ := leaveR_suffix f.toks s.op
    exact ⟨this, fun y hy => hi y (by rw [h1, e]; exact List.mem_append_right _ hy)⟩
  unfold stepZ
  split
  · exact ⟨h, hi⟩
  · by_cases hk0 : k = 0
    · rw [if_pos hk0]
      split
      · exact ⟨h, hi⟩
      · rw [if_pos hk0]; exact ⟨h, hi⟩
    · rw [if_neg hk0]
      split
      · exact ⟨h, hi⟩
      · rename_i x r e
        obtain ⟨hx, hxi⟩ := key x r e
        have hxa := hx.all x (List.mem_cons_self ..)
        rw [if_neg hk0]
        split
        · split
          · exact ⟨h, hi⟩
          · rename_i hnn
            refine ⟨⟨by simp, fun y hy => ?_, hx.e0, hx.e1, fun y r' e hb => ?_, fun y hy => hx.fst y hy, hx.len, botB_head hx.bt fun e => absurd (.inl (by have := hx.bt; rw [e] at this; exact this.1)) hnn⟩, fun y hy => ?_⟩
            · rcases List.mem_cons.1 hy with rfl | hy
              · exact ⟨hxa.op, Nat.zero_le _, by have := hxa.l0; show 0 ≤ x.left - 1; omega, by have := hxa.l1; show x.left - 1 ≤ _; omega⟩
              · exact hx.all y (List.mem_cons_of_mem _ hy)
            · simp only [List.cons.injEq] at e
              rw [← e.1] at hb
              cases hb
            · rcases List.mem_cons.1 hy with rfl | hy
              · exact hxi x (List.mem_cons_self ..)
              · exact hxi y (List.mem_cons_of_mem _ hy)
        · split
          · exact ⟨h, hi⟩
          · rename_i q hm
            obtain ⟨hb, hq, hkn, hnq⟩ := memZ_some hm
            have hql := (List.getElem?_eq_some_iff.1 hq).1
            have hx1 : LvOk f.toks ⟨x.p, x.left, x.begun, x.come + 1⟩ := ⟨hxa.op, by show x.come + 1 ≤ (rowZ f.toks x.p).length; omega, hxa.l0, hxa.l1⟩
            have ht1 : ∀ y ∈ (⟨x.p, x.left, x.begun, x.come + 1⟩ :: r : List Lv), LvOk f.toks y ∧ y.p < f.toks.length := fun y hy => by
              rcases List.mem_cons.1 hy with rfl | hy
              · exact ⟨hx1, hxi x (List.mem_cons_self ..)⟩
              · exact ⟨hx.all y (List.mem_cons_of_mem _ hy), hxi y (List.mem_cons_of_mem _ hy)⟩
            have hr1 : ∀ y ∈ r, y.begun = true := fun y hy => hx.fst y hy
            have hbt : r = [] → x.left = 0 ∧ x.begun = true := fun e => by have := hx.bt; rw [e] at this; exact this
            split
            · refine ⟨⟨by simp, fun y hy => (ht1 y hy).1, hx.e0, hx.e1, fun y r' e hb' => ?_, hr1, by have := hx.len; simpa using this, botB_head hx.bt hbt⟩, fun y hy => (ht1 y hy).2⟩
              simp only [List.cons.injEq] at e
              rw [← e.1] at hb'
              rw [show (Lv.mk x.p x.left x.begun (x.come + 1)).begun = x.begun from rfl, hb] at hb'
              cases hb'
            · rename_i hk3
              split
              · exact ⟨h, hi⟩
              · rename_i hc1
                split
                · exact ⟨h, hi⟩
                · rename_i hc2
                  have he0 := hx.e0
                  have he1 := hx.e1
                  have hln := hx.len
                  simp only [List.length_cons] at he0 he1 hln
                  split
                  · rename_i hc3
                    obtain ⟨n, t, ks, hbk⟩ := hxa.blk hz (hxi x (List.mem_cons_self ..))
                    obtain ⟨u, hu, huo, hpq, hqn⟩ := hbk.row (List.mem_of_getElem? hq)
                    have hu4 : u.op = 4 := by
                      rcases huo with e | e
                      · exact e
                      · rw [opAt_some hu, e] at hkn
                        have : (3 : Int) = k := hkn
                        omega
                    refine ⟨⟨by simp, fun y hy => ?_, by show 0 ≤ s.ent + cnt; omega, by show s.ent + cnt ≤ _; omega, fun y r' e hb' => ?_, fun y hy => ?_, ?_, (botB_cons (x := ⟨q, cnt, false, 0⟩)).2 (botB_head hx.bt hbt)⟩, fun y hy => ?_⟩
                    · rcases List.mem_cons.1 hy with rfl | hy
                      · exact ⟨.inr (by rw [opAt_some hu]; exact hu4), Nat.zero_le _, by show 0 ≤ cnt; omega, by show cnt ≤ _; omega⟩
                      · exact (ht1 y hy).1
                    · simp only [List.cons_append, List.nil_append, List.cons.injEq] at e
                      rw [← e.2]; simp
                    · rcases List.mem_cons.1 hy with rfl | hy
                      · exact hb
                      · exact hr1 y hy
                    · show r.length + 1 + 1 ≤ 1 + (s.ent + cnt).toNat
                      omega
                    · rcases List.mem_cons.1 hy with rfl | hy
                      · have := (List.getElem?_eq_some_iff.1 hu).1; exact this
                      · exact (ht1 y hy).2
                  · refine ⟨⟨by simp, fun y hy => (ht1 y hy).1, by show 0 ≤ s.ent + cnt; omega, by show s.ent + cnt ≤ _; omega, fun y r' e hb' => ?_, hr1, ?_, botB_head hx.bt hbt⟩, fun y hy => (ht1 y hy).2⟩
                    · simp only [List.nil_append, List.cons.injEq] at e
                      rw [← e.1] at hb'
                      rw [show (Lv.mk x.p x.left x.begun (x.come + 1)).begun = x.begun from rfl, hb] at hb'
                      cases hb'
                    · show r.length + 1 ≤ 1 + (s.ent + cnt).toNat
                      omega
theorem new_ok {f : Fm} (hz : chkZ f = none) : MsOk f.toks newZ ∧ InF f.toks newZ := by
  obtain ⟨t, ht, ho⟩ := first_msg hz
  refine ⟨⟨by simp [newZ], fun x hx => ?_, by decide, by decide, fun x r e hb => ?_, fun x hx => by simp [newZ] at hx, by simp [newZ], ⟨rfl, rfl⟩⟩, fun x hx => ?_⟩
  · obtain rfl := List.mem_singleton.1 hx
    exact ⟨.inl (by rw [opAt_some ht]; exact ho), Nat.zero_le _, by decide, by decide⟩
  · simp [newZ] at e
    rw [← e.1] at hb
    cases hb
  · obtain rfl := List.mem_singleton.1 hx
    exact (List.getElem?_eq_some_iff.1 ht).1
end Go.Proofs.YtepnmfgbflogkaaDoor
namespace Go.Proofs.YtepnmfgbflogkaaDoor
open Go.ChangeShapes Go.WideShapes Go.ChangeAt Go.RowKit

theorem ret_int {k : IntKind} {a b : Int} (h : a = b) : Ending.returned (.int k a) = .returned (.int k b) := by rw [h]
theorem ret_bool {a b : Bool} (h : a = b) : Ending.returned (.bool a) = .returned (.bool b) := by rw [h]
theorem bcell {W w1 : World} (hb : Below W.heap.size W w1) : (∀ b o, b < W.heap.size → w1.cell? ⟨b, o, none⟩ = W.cell? ⟨b, o, none⟩) ∧ (∀ b o, b < W.heap.size → w1.frozen? ⟨b, o, none⟩ = W.frozen? ⟨b, o, none⟩) :=
  ⟨fun b o h => hb.cell (p := ⟨b, o, none⟩) h, fun b o h => hb.frozen (p := ⟨b, o, none⟩) h⟩
theorem bel1 (w : World) (o : Obj) : Below w.heap.size w (w.alloc o) := (Below.refl _ _).alloc (Nat.le_refl _) _

/-- A kind as a value. -/
abbrev kV (s r n m x : Int) : Value := .agg #[.int .i64 s, .int .i64 r, .int .u64 n, .int .u64 m, .int .u64 x]

/-- The table's cells, as they are laid. -/
structure KT (w : World) : Prop where
  pos : 1 < w.heap.size
  size : ∀ p : Nat, p < 11 → w.cell? ⟨1, 5 * p, none⟩ = some (.int .i64 (sz p))
  reading : ∀ p : Nat, p < 11 → w.cell? ⟨1, 5 * p + 1, none⟩ = some (.int .i64 (rd p))
  null : ∀ p : Nat, p < 11 → w.cell? ⟨1, 5 * p + 2, none⟩ = some (.int .u64 (nl p))
  least : ∀ p : Nat, p < 11 → w.cell? ⟨1, 5 * p + 3, none⟩ = some (.int .u64 (mn p))
  most : ∀ p : Nat, p < 11 → w.cell? ⟨1, 5 * p + 4, none⟩ = some (.int .u64 (mx p))
theorem KT.below {w w' : World} (h : KT w) {B : Nat} (hB : 1 < B) (hb : Below B w w') : KT w' :=
  ⟨Nat.lt_of_lt_of_le h.pos hb.size, fun p hp => (hb.cell (p := ⟨1, 5 * p, none⟩) hB).trans (h.size p hp), fun p hp => (hb.cell (p := ⟨1, 5 * p + 1, none⟩) hB).trans (h.reading p hp),
    fun p hp => (hb.cell (p := ⟨1, 5 * p + 2, none⟩) hB).trans (h.null p hp), fun p hp => (hb.cell (p := ⟨1, 5 * p + 3, none⟩) hB).trans (h.least p hp), fun p hp => (hb.cell (p := ⟨1, 5 * p + 4, none⟩) hB).trans (h.most p hp)⟩

theorem kindOf_out (p : Int) (w : World) (h : p < 0 ∨ 11 ≤ p) :
    Calls Tryd.prog 84 #[.int .i64 p] w fun e w' => e = .returned (kV 0 0 0 0 0) ∧ Below w.heap.size w w' := by
  rcases h with h | h
  · go_enter Tryd.func84, Tryd.ntmps84
    go_wp2
    exact bodyPost_ret (v := kV 0 0 0 0 0) (by simp [results, Tryd.results84, go_sem]) rfl ⟨rfl, bel1 _ _⟩
  · have h' : ¬ p < 0 := by omega
    go_enter Tryd.func84, Tryd.ntmps84
    go_wp2
    exact bodyPost_ret (v := kV 0 0 0 0 0) (by simp [results, Tryd.results84, go_sem]) rfl ⟨rfl, bel1 _ _⟩
theorem kindOf_in (q : Nat) (s r n m x : Int) (w : World) (hq : q < 11) (hp : 1 < w.heap.size) (h0 : w.cell? ⟨1, 5 * q, none⟩ = some (.int .i64 s)) (h1 : w.cell? ⟨1, 5 * q + 1, none⟩ = some (.int .i64 r))
    (h2 : w.cell? ⟨1, 5 * q + 2, none⟩ = some (.int .u64 n)) (h3 : w.cell? ⟨1, 5 * q + 3, none⟩ = some (.int .u64 m)) (h4 : w.cell? ⟨1, 5 * q + 4, none⟩ = some (.int .u64 x)) :
    Calls Tryd.prog 84 #[.int .i64 q] w fun e w' => e = .returned (kV s r n m x) ∧ Below w.heap.size w w' := by
  have hc : q = 0 ∨ q = 1 ∨ q = 2 ∨ q = 3 ∨ q = 4 ∨ q = 5 ∨ q = 6 ∨ q = 7 ∨ q = 8 ∨ q = 9 ∨ q = 10 := by omega
  rcases hc with rfl | rfl | rfl | rfl | rfl | rfl | rfl | rfl | rfl | rfl | rfl
  all_goals
    simp only [Nat.mul_zero, Nat.zero_add, Nat.reduceMul, Nat.reduceAdd] at h0 h1 h2 h3 h4
    go_enter Tryd.func84, Tryd.ntmps84
    go_wp2
    exact bodyPost_ret (v := kV s r n m x) (by simp [results, Tryd.results84, go_sem]) rfl ⟨rfl, bel1 _ _⟩
theorem kindOf_any (p : Int) (w : World) (h : KT w) :
    Calls Tryd.prog 84 #[.int .i64 p] w fun e w' => e = .returned (kV (sz p) (rd p) (nl p) (mn p) (mx p)) ∧ Below w.heap.size w w' := by
  by_cases hp : p < 0 ∨ 11 ≤ p
  · have e : kV (sz p) (rd p) (nl p) (mn p) (mx p) = kV 0 0 0 0 0 := by unfold sz rd nl mn mx; rw [kRow_out p hp]
    rw [e]; exact kindOf_out p w hp
  · obtain ⟨q, rfl⟩ : ∃ q : Nat, p = q := ⟨p.toNat, by omega⟩
    exact kindOf_in q _ _ _ _ _ w (by omega) h.pos (h.size q (by omega)) (h.reading q (by omega)) (h.null q (by omega)) (h.least q (by omega)) (h.most q (by omega))

theorem word_any (s r n m x b : Int) (w : World) (hk : KOk s r) (hs : s ≠ 0) (hb : 0 ≤ b) (hb' : b < 18446744073709551616) :
    Calls Tryd.prog 89 #[kV s r n m x, .int .u64 b] w fun e w' => e = .returned (.int .u64 (wordF s r b)) ∧ Below w.heap.size w w' := by
  rcases hk with ⟨rfl, rfl⟩ | ⟨rfl, rfl⟩ | ⟨rfl, rfl⟩ | ⟨rfl, rfl⟩ | ⟨rfl, rfl⟩ | ⟨rfl, rfl⟩ | ⟨rfl, rfl⟩ | ⟨rfl, rfl⟩ | ⟨rfl, rfl⟩ | ⟨rfl, rfl⟩ | ⟨rfl, rfl⟩
  · exact absurd rfl hs
  all_goals
    clear hs
    go_enter Tryd.func89, Tryd.ntmps89
    go_wp2
    go_ret
    refine ⟨ret_int ?_, bel1 _ _⟩
    simp only [IntKind.wrap_u64, wrap64, wordF, pw, if_true, if_false, Int.reduceEq, false_and, true_and]
    try split
    all_goals omega
end Go.Proofs.YtepnmfgbflogkaaDoor
namespace Go.Proofs.YtepnmfgbflogkaaDoor
open Go.ChangeShapes Go.WideShapes Go.ChangeAt Go.RowKit

theorem fits_any (s r n m x b : Int) (w : World) (hk : KOk s r) (hb : 0 ≤ b) (hb' : b < 18446744073709551616) :
    Calls Tryd.prog 87 #[kV s r n m x, .int .u64 b] w fun e w' => e = .returned (.bool (fitsF s r b)) ∧ Below w.heap.size w w' := by
  by_cases hs : s = 0
  · subst hs
    go_enter Tryd.func87, Tryd.ntmps87
    go_wp2
    go_ret
    exact ⟨ret_bool rfl, (bel1 _ _).alloc (by simp) _⟩
  · have hpos : 0 < s := by unfold KOk at hk; omega
    have e : fitsF s r b = (wordF s r b == b) := by unfold fitsF; rw [decide_eq_true hpos]; rfl
    rw [e]
    have hk' : Hid (KOk s r) := hk
    clear hk e
    go_enter Tryd.func87, Tryd.ntmps87
    go_wp2_with (first | (go_at_call 89; refine (word_any _ _ _ _ _ _ _ hk'.out hs hb hb').mono ?_; rintro e w' ⟨rfl, hbl⟩) | (go_at_call 88; go_in))
    go_ret
    exact ⟨rfl, ((bel1 _ _).alloc (by simp) _).trans (hbl.mono (by simp; omega))⟩

theorem field0 (s r n m x : Int) (w : World) : (Instr.field 142 (kV s r n m x) 0).run Tryd.prog w = .ok (.int .i64 s) w := by kernel_rfl
theorem field1 (s r n m x : Int) (w : World) : (Instr.field 142 (kV s r n m x) 1).run Tryd.prog w = .ok (.int .i64 r) w := by kernel_rfl
theorem field2 (s r n m x : Int) (w : World) : (Instr.field 142 (kV s r n m x) 2).run Tryd.prog w = .ok (.int .u64 n) w := by kernel_rfl
theorem field3 (s r n m x : Int) (w : World) : (Instr.field 142 (kV s r n m x) 3).run Tryd.prog w = .ok (.int .u64 m) w := by kernel_rfl
theorem field4 (s r n m x : Int) (w : World) : (Instr.field 142 (kV s r n m x) 4).run Tryd.prog w = .ok (.int .u64 x) w := by kernel_rfl
theorem Fits_any (p b : Int) (w : World) (h : KT w) (hb : 0 ≤ b) (hb' : b < 18446744073709551616) : Calls Tryd.prog 76 #[.int .i64 p, .int .u64 b] w fun e w' => e = .returned (.bool (fitsF (sz p) (rd p) b)) ∧ Below w.heap.size w w' := by
  go_enter Tryd.func76, Tryd.ntmps76
  go_wp2_with (first | (go_at_call 84; refine (kindOf_any _ _ h).mono ?_; rintro e w' ⟨rfl, hbl⟩) | (go_at_call 87; refine (fits_any _ _ _ _ _ _ _ (kok p) hb hb').mono ?_; rintro e w1 ⟨rfl, hbl1⟩))
  go_ret
  exact ⟨rfl, hbl.trans (hbl1.mono hbl.size)⟩

end Go.Proofs.YtepnmfgbflogkaaDoor

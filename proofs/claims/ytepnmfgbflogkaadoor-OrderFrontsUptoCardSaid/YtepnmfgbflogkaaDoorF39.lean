/- FrP, FrS, FrB, FrU. -/
import Derived.Test.YtepnmfgbflogkaaDoorF37
import Derived.Test.YtepnmfgbflogkaaDoorF38
import Derived.Test.YtepnmfgbflogkaaDoorF36
namespace Go.Proofs.YtepnmfgbflogkaaDoor

/-- A call as run makes it. -/
def CallOk (l : List Tk) (c : Oc) : Prop := (c.k = 0 ∨ c.k = 1 ∨ c.k = 2 ∨ c.k = 3) ∧ 0 ≤ c.cnt ∧ c.cnt ≤ 3 ∧ (c.nm = ⟨#[]⟩ ∨ ∃ i, c.nm = nmAt l i)
theorem row_calls {l : List Tk} {R : Nat → List Oc → Prop} (hR : ∀ q e, R q e → ∀ c ∈ e, CallOk l c) : ∀ {row : List Nat} {rs : List Oc}, RowR l R row rs → ∀ c ∈ rs, CallOk l c
  | [], rs, h, c, hc => by
    obtain rfl : rs = [] := h
    cases hc
  | q :: r, rs, ⟨a, b, e, h1, h2⟩, c, hc => by
    subst e
    rcases List.mem_append.1 hc with hc | hc
    · rcases h2 with ⟨_, rfl⟩ | ⟨_, es, hes, rfl, hE⟩
      · rw [List.mem_singleton.1 hc]
        exact ⟨.inr (.inr (.inr rfl)), Int.le_refl _, (by decide : (0 : Int) ≤ 3), .inr ⟨q, rfl⟩⟩
      · rcases List.mem_cons.1 hc with rfl | hc
        · exact ⟨.inr (.inl rfl), by show (0 : Int) ≤ (es.length : Int); omega, by show (es.length : Int) ≤ 3; omega, .inr ⟨q, rfl⟩⟩
        · obtain ⟨e, he, hc⟩ := List.mem_flatMap.1 hc
          rcases List.mem_cons.1 hc with rfl | hc
          · exact ⟨.inr (.inr (.inl rfl)), by decide, by decide, .inl rfl⟩
          · exact hR q e (hE e he) c hc
    · exact row_calls hR h1 c hc
theorem run_calls {l : List Tk} : ∀ (d p : Nat) (cs : List Oc), RunD l d p cs → ∀ c ∈ cs, CallOk l c
  | 0, _, _, h, _, _ => h.elim
  | d + 1, p, cs, ⟨fs, rs, e, hf, hr⟩, c, hc => by
    subst e
    rcases List.mem_append.1 hc with hc | hc
    · obtain ⟨hk, h0, i, _, hn⟩ := hf c hc
      exact ⟨.inl hk, by omega, by omega, .inr ⟨i, hn.symm⟩⟩
    · exact row_calls (fun q e he => run_calls d q e he) hr c hc
end Go.Proofs.YtepnmfgbflogkaaDoor
namespace Go.Proofs.YtepnmfgbflogkaaDoor
open Go.ChangeShapes Go.WideShapes Go.ChangeAt Go.RowKit Go.Shelf Go.Maps

theorem run_all (f : Fm) (hz : chkZ f = none) (pp : Option Addr) (cp : Nat) (L : List Int) (pL : Option Addr) (cL cb T : Nat) (hT : f.toks.length + 3 ≤ T) (hTb : T ≤ 2000000) : ∀ (d p n : Nat) (t : Tk) (ks : List Nat), Pb f.toks p n t ks → t.op = 0 ∨ t.op = 4 → n - p ≤ d → RunC f pp cp L pL cL cb T d p
  | 0, p, n, t, ks, hP, _, hd => by
    have := hP.bg.bn
    omega
  | d + 1, p, n, t, ks, hP, ho, hd => run_step f hz pp cp L pL cL cb T d hT hTb ⟨fun q m u ks' h1 h2 h3 => run_all f hz pp cp L pL cL cb T hT hTb d q m u ks' h1 h2 h3⟩ p n t ks hP ho hd
/-- What the calls of a message are, and what a machine does with them. -/
structure Msg (f : Fm) (cs : List Oc) : Prop where
  ok : okS f.toks newZ cs
  fin : ∃ ov, (∀ x ∈ ov, overB f.toks x = true) ∧ endS f.toks newZ cs = ⟨ov ++ [⟨0, 0, true, (rowZ f.toks 0).length⟩], tot cs⟩
  len : cs.length ≤ 10000000000
  call : ∀ c ∈ cs, CallOk f.toks c
theorem run_msg (f : Fm) (hz : chkZ f = none) (pp : Option Addr) (cp : Nat) (L : List Int) (pL : Option Addr) (cL cb : Nat) (hl : f.toks.length ≤ 1999997) (w : World) (tl : TkL w pp cb f.toks) (pl : PRow w pL cb L) (hc : w.heap[cb]? = some (chO pL L.length cL 0)) :
    Calls Tryd.prog 13 #[fmV f pp cp, .int .i64 0, .pointer (some ⟨cb, 0, none⟩), .slice none 0 0] w fun r w' => ∃ (v' : Value) (cs : List Oc), r = .returned v' ∧ COwn w' (cb + 1) v' cs ∧ Msg f cs ∧ Below cb w w' := by
  obtain ⟨t, ht, ho⟩ := first_msg hz
  obtain ⟨n, ks, hPb⟩ := pb_of hz ht (.inl ho)
  have hcb := (Array.getElem?_eq_some_iff.1 hc).1
  have hb : Ph (f.toks.length + 3) 0 + (f.toks.length + 3) ≤ 10000000000 := by
    unfold Ph ph
    omega
  have hC := run_all f hz pp cp L pL cL cb (f.toks.length + 3) (Nat.le_refl _) (by omega) n 0 n t ks hPb (.inl ho) (by omega) w (.slice none 0 0) [] 0 tl pl hc (World.ownsRow_nil _ _ _ 5) (Nat.le_refl _) hb
  refine hC.mono ?_
  rintro r w' ⟨v', cs, at', rfl, z1, z2, z3, z4, z5, z6, z7⟩
  rw [List.nil_append] at z3 z5 z6
  have h603 : ph ([] : List Oc).length = 603 := rfl
  have ht : tot cs ≤ 65536 := by omega
  obtain ⟨r1, r2⟩ := run_whole z4 ht
  have hge := Ph_ge (f.toks.length + 3) cs.length
  have e0 : ([] : List Oc).length = 0 := rfl
  rw [e0] at z5
  exact ⟨v', cs, rfl, z3, ⟨r1, r2, by omega, run_calls n 0 cs z4⟩, z1.low (fun k hk => by cases hk) (Nat.le_of_lt hcb)⟩
end Go.Proofs.YtepnmfgbflogkaaDoor
namespace Go.Proofs.YtepnmfgbflogkaaDoor
open Go.ChangeShapes Go.WideShapes Go.ChangeAt Go.RowKit Go.Shelf Go.Maps

/-- The blocks of N are as they were. -/
structure Nf (N : Nat → Prop) (w w' : World) : Prop where
  os : w'.os = w.os
  tape : w'.tape = w.tape
  output : w'.output = w.output
  size : w.heap.size ≤ w'.heap.size
  block : ∀ k, N k → w'.heap[k]? = w.heap[k]?
theorem Nf.refl (N : Nat → Prop) (w : World) : Nf N w w := ⟨rfl, rfl, rfl, Nat.le_refl _, fun _ _ => rfl⟩
theorem Nf.trans {N : Nat → Prop} {a b c : World} (h : Nf N a b) (h' : Nf N b c) : Nf N a c := ⟨h'.os.trans h.os, h'.tape.trans h.tape, h'.output.trans h.output, Nat.le_trans h.size h'.size, fun k hk => (h'.block k hk).trans (h.block k hk)⟩
theorem Nf.mono {N N' : Nat → Prop} {a b : World} (h : Nf N a b) (hN : ∀ k, N' k → N k) : Nf N' a b := ⟨h.os, h.tape, h.output, h.size, fun k hk => h.block k (hN k hk)⟩
theorem Nf.of_below {N : Nat → Prop} {a b : World} (h : Below a.heap.size a b) (hN : ∀ k, N k → k < a.heap.size) : Nf N a b := ⟨h.os, h.tape, h.output, h.size, fun k hk => h.block k (hN k hk)⟩
theorem Nf.below {N : Nat → Prop} {a b : World} {n : Nat} (h : Nf N a b) (hN : ∀ k, k < n → N k) : Below n a b := ⟨h.os, h.tape, h.output, h.size, fun k hk => h.block k (hN k hk)⟩
/-- A machine none of whose blocks is in N. -/
def M1 (f : Fm) (N : Nat → Prop) (w : World) (a : Nat) (s : Ms) : Prop := ∃ U, Mc f w a s U ∧ ∀ k, U k → ¬ N k
theorem M1.below {f : Fm} {N : Nat → Prop} {w w' : World} {a : Nat} {s : Ms} (h : M1 f N w a s) (hb : Below w.heap.size w w') : M1 f N w' a s := by
  obtain ⟨U, h1, h2⟩ := h
  exact ⟨U, h1.below hb, h2⟩
/-- New blocks may be kept besides. -/
theorem M1.more {f : Fm} {N N' : Nat → Prop} {w w' : World} {a : Nat} {s : Ms} (h : M1 f N w a s) (hb : Below w.heap.size w w') (hN : ∀ k, N' k → N k ∨ w.heap.size ≤ k) : M1 f N' w' a s := by
  obtain ⟨U, h1, h2⟩ := h
  refine ⟨U, h1.below hb, fun k hk hn => ?_⟩
  rcases hN k hn with h3 | h3
  · exact h2 k hk h3
  · have := h1.lt k hk; omega
theorem M1.less {f : Fm} {N N' : Nat → Prop} {w : World} {a : Nat} {s : Ms} (h : M1 f N w a s) (hN : ∀ k, N' k → N k) : M1 f N' w a s := by
  obtain ⟨U, h1, h2⟩ := h
  exact ⟨U, h1, fun k hk hn => h2 k hk (hN k hn)⟩
theorem M1.step {f : Fm} (hz : chkZ f = none) (hl : f.toks.length ≤ 733007751850) {N : Nat → Prop} {w : World} {a : Nat} {s s' : Ms} {e : Int} (c : Cl) (h : M1 f N w a s) (hN : ∀ k, N k → k < w.heap.size) (hco : i64ok c.cnt) (hnm : c.nm.size ≤ maxLen) (h1 : (stepZ f.toks s c.k c.cnt c.nm).1 = e) (h2 : (stepZ f.toks s c.k c.cnt c.nm).2 = s') :
    Calls Tryd.prog 11 #[.pointer (some ⟨a, 0, none⟩), caV c] w fun r w' => r = .returned (.int .i64 e) ∧ M1 f N w' a s' ∧ Nf N w w' := by
  obtain ⟨U, q1, q2⟩ := h
  subst h1 h2
  refine (Step_mc f hz hl a s U c w q1 hco hnm).mono ?_
  rintro r w' ⟨e, hm, hf⟩
  refine ⟨e, ⟨grw U w w', hm, fun k hk hn => ?_⟩, ⟨hf.os, hf.tape, hf.output, hf.size, fun k hk => hf.block k (hN k hk) fun hU => q2 k hU hk⟩⟩
  rcases hk with hk | hk
  · exact q2 k hk hn
  · have := hN k hn; omega
/-- Two of them. -/
def M2 (f : Fm) (N : Nat → Prop) (w : World) (a : Nat) (s : Ms) (a' : Nat) (s' : Ms) : Prop := ∃ U V, Mc f w a s U ∧ Mc f w a' s' V ∧ (∀ k, U k → ¬ V k) ∧ ∀ k, U k ∨ V k → ¬ N k
theorem M2.k2 {f : Fm} {N : Nat → Prop} {w : World} {a a' : Nat} {s s' : Ms} (h : M2 f N w a s a' s') : K2 f 0 0 0 w a s a' s' := by
  obtain ⟨U, V, h1, h2, h3, -⟩ := h
  exact ⟨U, V, h1, h2, h3, fun k _ => ⟨Nat.zero_le _, by omega⟩⟩
theorem M2.below {f : Fm} {N : Nat → Prop} {w w' : World} {a a' : Nat} {s s' : Ms} (h : M2 f N w a s a' s') (hb : Below w.heap.size w w') : M2 f N w' a s a' s' := by
  obtain ⟨U, V, h1, h2, h3, h4⟩ := h
  exact ⟨U, V, h1.below hb, h2.below hb, h3, h4⟩
theorem M2.more {f : Fm} {N N' : Nat → Prop} {w w' : World} {a a' : Nat} {s s' : Ms} (h : M2 f N w a s a' s') (hb : Below w.heap.size w w') (hN : ∀ k, N' k → N k ∨ w.heap.size ≤ k) : M2 f N' w' a s a' s' := by
  obtain ⟨U, V, h1, h2, h3, h4⟩ := h
  refine ⟨U, V, h1.below hb, h2.below hb, h3, fun k hk hn => ?_⟩
  rcases hN k hn with h5 | h5
  · exact h4 k hk h5
  · rcases hk with hk | hk
    · have := h1.lt k hk; omega
    · have := h2.lt k hk; omega
theorem M2.less {f : Fm} {N N' : Nat → Prop} {w : World} {a a' : Nat} {s s' : Ms} (h : M2 f N w a s a' s') (hN : ∀ k, N' k → N k) : M2 f N' w a s a' s' := by
  obtain ⟨U, V, h1, h2, h3, h4⟩ := h
  exact ⟨U, V, h1, h2, h3, fun k hk hn => h4 k hk (hN k hn)⟩
theorem M2.stepA {f : Fm} (hz : chkZ f = none) (hl : f.toks.length ≤ 733007751850) {N : Nat → Prop} {w : World} {a a' : Nat} {s t s' : Ms} {e : Int} (c : Cl) (h : M2 f N w a s a' s') (hN : ∀ k, N k → k < w.heap.size) (hco : i64ok c.cnt) (hnm : c.nm.size ≤ maxLen) (h1 : (stepZ f.toks s c.k c.cnt c.nm).1 = e) (h2 : (stepZ f.toks s c.k c.cnt c.nm).2 = t) :
    Calls Tryd.prog 11 #[.pointer (some ⟨a, 0, none⟩), caV c] w fun r w' => r = .returned (.int .i64 e) ∧ M2 f N w' a t a' s' ∧ Nf N w w' := by
  obtain ⟨U, V, q1, q2, q3, q4⟩ := h
  subst h1 h2
  refine (Step_mc f hz hl a s U c w q1 hco hnm).mono ?_
  rintro r w' ⟨e, hm, hf⟩
  refine ⟨e, ⟨grw U w w', V, hm, q2.frm hf fun k hv hu => q3 k hu hv, fun k hk hv => ?_, fun k hk hn => ?_⟩, ⟨hf.os, hf.tape, hf.output, hf.size, fun k hk => hf.block k (hN k hk) fun hU => q4 k (.inl hU) hk⟩⟩
  · rcases hk with hk | hk
    · exact q3 k hk hv
    · have := q2.lt k hv; omega
  · rcases hk with (hk | hk) | hk
    · exact q4 k (.inl hk) hn
    · have := hN k hn; omega
    · exact q4 k (.inr hk) hn
theorem M2.swap {f : Fm} {N : Nat → Prop} {w : World} {a a' : Nat} {s s' : Ms} (h : M2 f N w a s a' s') : M2 f N w a' s' a s := by
  obtain ⟨U, V, h1, h2, h3, h4⟩ := h
  exact ⟨V, U, h2, h1, fun k hv hu => h3 k hu hv, fun k hk => h4 k hk.symm⟩
theorem M2.stepB {f : Fm} (hz : chkZ f = none) (hl : f.toks.length ≤ 733007751850) {N : Nat → Prop} {w : World} {a a' : Nat} {s t s' : Ms} {e : Int} (c : Cl) (h : M2 f N w a s a' s') (hN : ∀ k, N k → k < w.heap.size) (hco : i64ok c.cnt) (hnm : c.nm.size ≤ maxLen) (h1 : (stepZ f.toks s' c.k c.cnt c.nm).1 = e) (h2 : (stepZ f.toks s' c.k c.cnt c.nm).2 = t) :
    Calls Tryd.prog 11 #[.pointer (some ⟨a', 0, none⟩), caV c] w fun r w' => r = .returned (.int .i64 e) ∧ M2 f N w' a s a' t ∧ Nf N w w' :=
  (h.swap.stepA hz hl c hN hco hnm h1 h2).mono fun _ _ ⟨e, h1, h2⟩ => ⟨e, h1.swap, h2⟩
/-- A second machine is made. -/
theorem M1.two {f : Fm} {N : Nat → Prop} {w w' : World} {a a' : Nat} {s : Ms} (h : M1 f N w a s) (hb : Below w.heap.size w w') (hN : ∀ k, N k → k < w.heap.size) (hm : Mc f w' a' newZ (fun k => w.heap.size ≤ k ∧ k < w'.heap.size)) : M2 f N w' a s a' newZ := by
  obtain ⟨U, h1, h2⟩ := h
  refine ⟨U, _, h1.below hb, hm, fun k hu hv => ?_, fun k hk hn => ?_⟩
  · have e1 := h1.lt k hu
    have e2 := hv.1
    omega
  · rcases hk with hk | hk
    · exact h2 k hk hn
    · have e1 := hN k hn
      have e2 := hk.1
      omega
end Go.Proofs.YtepnmfgbflogkaaDoor
namespace Go.Proofs.YtepnmfgbflogkaaDoor
open Go.ChangeShapes Go.WideShapes Go.ChangeAt Go.RowKit Go.Shelf Go.Maps

theorem COwn.cell {w : World} {base : Nat} {pv : Option Addr} {m cv : Nat} {cs : List Oc} (h : COwn w base (.slice pv m cv) cs) {j : Nat} {c : Oc} (hj : cs[j]? = some c) : ∃ g, pv = some ⟨g, 0, none⟩ ∧ w.cell? ⟨g, j * 5, none⟩ = some (.int .i64 c.k) ∧ w.cell? ⟨g, j * 5 + 1, none⟩ = some (.string c.nm) ∧ w.cell? ⟨g, j * 5 + 2, none⟩ = some (.slice none 0 0) ∧ w.cell? ⟨g, j * 5 + 3, none⟩ = some (.int .i64 c.cnt) ∧ w.cell? ⟨g, j * 5 + 4, none⟩ = some (.string ⟨#[]⟩) := by
  have hjl := (List.getElem?_eq_some_iff.1 hj).1
  rcases h.2 with ⟨hv, hn⟩ | ⟨g, cap, cur, hv, _, hg, hc, _, hs, ht⟩
  · omega
  · injection hv with e1 e2 e3
    have key : ∀ i, i < 5 → w.cell? ⟨g, j * 5 + i, none⟩ = (ocC c)[i]? := fun i hi => by
      have e := ocCs_get cs j c hj i hi
      rw [← ht, List.getElem?_take, if_pos (by omega), Array.getElem?_toList] at e
      rw [cell_at hg]
      exact e
    exact ⟨g, e1, key 0 (by omega), key 1 (by omega), key 2 (by omega), key 3 (by omega), key 4 (by omega)⟩
/-- What a law must leave alone: all ahead of block b, and from cb up to hi. -/
def N0 (b cb hi : Nat) : Nat → Prop := fun k => k < b ∨ (cb ≤ k ∧ k < hi)
/-- .. and what came since. -/
def N1 (b cb hi lo up : Nat) : Nat → Prop := fun k => N0 b cb hi k ∨ (lo ≤ k ∧ k < up)
theorem N1.less {b cb hi lo up : Nat} : ∀ k, N0 b cb hi k → N1 b cb hi lo up k := fun _ h => .inl h
theorem N1.more {b cb hi lo up : Nat} : ∀ k, N1 b cb hi lo up k → N0 b cb hi k ∨ lo ≤ k := fun _ h => h.imp id (·.1)
theorem N0.lt {b cb hi n : Nat} (hb : b ≤ n) (hh : hi ≤ n) : ∀ k, N0 b cb hi k → k < n := fun k h => by
  rcases h with h | h
  · omega
  · have := h.2; omega
theorem N1.lt {b cb hi lo up n : Nat} (hb : b ≤ n) (hh : hi ≤ n) (hu : up ≤ n) : ∀ k, N1 b cb hi lo up k → k < n := fun k h => by
  rcases h with h | h
  · exact N0.lt hb hh k h
  · have := h.2; omega
theorem call_ok {f : Fm} {cs : List Oc} (h : Msg f cs) (hn : ∀ i, (nmAt f.toks i).size ≤ maxLen) {c : Oc} (hc : c ∈ cs) : i64ok c.cnt ∧ c.nm.size ≤ maxLen := by
  obtain ⟨-, h1, h2, h3⟩ := h.call c hc
  refine ⟨⟨by omega, by omega⟩, ?_⟩
  rcases h3 with h3 | ⟨i, h3⟩
  · rw [h3]; decide
  · rw [h3]; exact hn i
theorem nm_le {w : World} {pp : Option Addr} {H : Nat} {l : List Tk} (h : TkL w pp H l) (i : Nat) : (nmAt l i).size ≤ maxLen := by
  unfold nmAt
  cases hi : l[i]? with
  | none => decide
  | some t => exact Nat.le_trans (h.ok t (List.mem_of_getElem? hi)).name (by decide)
end Go.Proofs.YtepnmfgbflogkaaDoor

/- The tree's printer in memory: tell, shutTo. -/
import Derived.Test.YtchfphakhmifmaaGreatDoorPC
import Derived.Test.YtchfphakhmifmaaGreatDoorPA
import Derived.Test.YtchfphakhmifmaaGreatDoorXRd
import Derived.Test.YtchfphakhmifmaaGreatDoorXI
import Derived.BigRegion
import Derived.Deep.RegionLaw
namespace Go.Proofs.YtchfphakhmifmaaGreatDoor
open Go.ChangeShapes Go.WideShapes Go.ChangeAt Go.RowKit Go.Lib

/-- The printer's rows: the pieces; the names of what is open, the innermost last. -/
def p2 (vO vN : Value) (ts : List IT) (st : List ByteArray) : Nat → Rw := fun c =>
  if c = 0 then ⟨39, 4, vO, ts.length, itCells ts⟩ else if c = 1 then ⟨9, 1, vN, st.length, st.map .string⟩ else ⟨3, 1, .slice none 0 0, 0, []⟩
theorem p2_up0 (vO vO' vN : Value) (ts ts' : List IT) (st : List ByteArray) : upF (p2 vO vN ts st) 0 ⟨39, 4, vO', ts'.length, itCells ts'⟩ = p2 vO' vN ts' st := by
  funext c
  unfold upF p2
  by_cases h : c = 0
  · rw [if_pos h, if_pos h]
  · rw [if_neg h, if_neg h, if_neg h]
theorem p2_up1 (vO vN vN' : Value) (ts : List IT) (st st' : List ByteArray) : upF (p2 vO vN ts st) 1 ⟨9, 1, vN', st'.length, st'.map .string⟩ = p2 vO vN' ts st' := by
  funext c
  unfold upF p2
  by_cases h : c = 1
  · subst h; rfl
  · rw [if_neg h]
    by_cases h0 : c = 0
    · rw [if_pos h0, if_pos h0]
    · rw [if_neg h0, if_neg h0, if_neg h, if_neg h]
structure PP (W : World) (R bot : Nat) (vO vN : Value) (ts : List IT) (st : List ByteArray) : Prop where
  c0 : W.cell? ⟨R, 0, none⟩ = some vO
  c1 : W.cell? ⟨R, 1, none⟩ = some vN
  fz : ∀ o, W.frozen? ⟨R, o, none⟩ = false
  lt : R < bot
  hB : bot ≤ W.heap.size
  pf : PF W bot (p2 vO vN ts st)
theorem PP.own0 {W : World} {R bot : Nat} {vO vN : Value} {ts : List IT} {st : List ByteArray} (h : PP W R bot vO vN ts st) : W.ownsRow bot 39 4 vO ts.length (itCells ts) := h.pf.own 0
theorem PP.own1 {W : World} {R bot : Nat} {vO vN : Value} {ts : List IT} {st : List ByteArray} (h : PP W R bot vO vN ts st) : W.ownsRow bot 9 1 vN st.length (st.map .string) := h.pf.own 1
theorem PP.keep {W W' : World} {R bot : Nat} {vO vN : Value} {ts : List IT} {st : List ByteArray} (h : PP W R bot vO vN ts st) (hb : Below W.heap.size W W') : PP W' R bot vO vN ts st := by
  have hR : R < W.heap.size := Nat.lt_of_lt_of_le h.lt h.hB
  have hh := hb.block R hR
  exact ⟨(hb.cell (p := ⟨R, 0, none⟩) hR).trans h.c0, (hb.cell (p := ⟨R, 1, none⟩) hR).trans h.c1, fun o => by rw [← h.fz o]; simp only [World.frozen?, hh], h.lt, Nat.le_trans h.hB hb.size, h.pf.keep hb⟩
theorem ppf_app {W W1 W' : World} {bot : Nat} {f : Nat → Rw} (h : PF W bot f) (hb : Below W.heap.size W W1) (c : Nat) {r : Rw} (hO : r.own W' bot) (hg : W1.grownBy W' (f c).v.ownBlock) (hv : r.v.ownBlock = (f c).v.ownBlock ∨ r.v.ownBlock = some W1.heap.size) : PF W' bot (upF f c r) :=
  (h.keep hb).upd c hO (fun k hk => by
    rcases hv with e | e
    · exact .inl (e ▸ hk)
    · rw [e] at hk; injection hk with hk; exact .inr (by omega)) (fun k _ hk hne => hg.block k hk fun e => hne e.symm)
/-- One more behind a row of one's own. -/
theorem pap1 {W : World} {base : Nat} {t e : TypeId} {z : Value} {size bytes n : Nat} {v : Value} {xs : List Value} (ht : Tryz.prog.underlying t = some (.slice e)) (hi : (Tryz.prog.info? e).map (fun i => (i.zero, i.size, i.bytes)) = some (some z, size, bytes)) (hz : z.cells.size = size) (hsz : 0 < size)
    (own : W.ownsRow base e size v n xs) {G : Nat} {cs : Array Value} {fr : Nat × Nat} (hG : W.heap[G]? = some (.cells cs e fr)) (hcs : cs.toList.length = size) (h1 : ∀ u ∈ cs.toList, u.oneCell' = true) (hn : n ≤ 1000000000) (hb : bytes ≤ 100) (hbase : base ≤ W.heap.size) :
    ∃ v' w', (∀ ty, (Builtin.append_ #[t, t] ty #[v, .slice (some ⟨G, 0, none⟩) 1 1]).run Tryz.prog W = .ok v' w') ∧ w'.ownsRow base e size v' (n + 1) (xs ++ cs.toList) ∧ W.grownBy w' v.ownBlock ∧ (v'.ownBlock = v.ownBlock ∨ v'.ownBlock = some W.heap.size) := by
  obtain ⟨i0, hi0, hz0⟩ := Option.map_eq_some_iff.1 hi
  simp only [Prod.mk.injEq] at hz0
  have hr := fun ty => run_append_own_at (P := Tryz.prog) W base t ty e i0 z size bytes ht hi0 hz0.1 hz0.2.1 hz0.2.2 hz hsz v n xs own ⟨G, 0, none⟩ 1 1 cs.toList (by rw [hcs, Nat.one_mul]) (World.news_of_block hG) h1 (by simp only [maxLen]; omega) (Nat.le_trans (Nat.mul_le_mul (show n + 1 ≤ 1000000001 by omega) hb) (by decide)) hbase
  obtain ⟨v', w', q1, q2, q3, _, q4⟩ := hr 0
  refine ⟨v', w', fun ty => ?_, q2, q3, q4⟩
  have e : (Builtin.append_ #[t, t] ty #[v, .slice (some ⟨G, 0, none⟩) 1 1]) = (Builtin.append_ #[t, t] 0 #[v, .slice (some ⟨G, 0, none⟩) 1 1]) := rfl
  rw [e]
  exact q1
theorem infoStr : (Tryz.prog.info? 9).map (fun i => (i.zero, i.size, i.bytes)) = some (some (.string ⟨#[]⟩), 1, 16) := by kernel_rfl
theorem Hid.mkP {p : Prop} (h : p) : Hid p := h
theorem heap_two1 (w : World) (A B : Obj) : ((w.alloc A).alloc B).heap[w.heap.size]? = some A := by
  show ((w.heap.push A).push B)[w.heap.size]? = _
  rw [Array.getElem?_push, if_neg (by simp), Array.getElem?_push, if_pos rfl]
theorem heap_two2 (w : World) (A B : Obj) : ((w.alloc A).alloc B).heap[w.heap.size + 1]? = some B := by
  show ((w.heap.push A).push B)[w.heap.size + 1]? = _
  rw [Array.getElem?_push, if_pos (by simp)]
theorem below_two (w : World) (A B : Obj) : Below w.heap.size w ((w.alloc A).alloc B) := (bel1 w A).alloc (by simp) B
def itO (t : IT) : Obj := .cells #[.int .i64 t.k, .string t.nm, .string t.vl, .int .i64 t.p] 39
theorem itCells_snoc (ts : List IT) (t : IT) : itCells (ts ++ [t]) = itCells ts ++ itC t := by
  unfold itCells
  rw [List.flatMap_append]
  simp
/-- What a method of the printer leaves: all blocks but its own and its rows'. -/
structure Pk (R : Nat) (vO vN vO' vN' : Value) (w w' : World) : Prop where
  os : w'.os = w.os
  tape : w'.tape = w.tape
  output : w'.output = w.output
  size : w.heap.size ≤ w'.heap.size
  block : ∀ k, k < w.heap.size → k ≠ R → vO.ownBlock ≠ some k → vN.ownBlock ≠ some k → w'.heap[k]? = w.heap[k]?
  nO : ∀ k, vO'.ownBlock = some k → vO.ownBlock = some k ∨ w.heap.size ≤ k
  nN : ∀ k, vN'.ownBlock = some k → vN.ownBlock = some k ∨ w.heap.size ≤ k
theorem Pk.refl (R : Nat) (vO vN : Value) (w : World) : Pk R vO vN vO vN w w := ⟨rfl, rfl, rfl, Nat.le_refl _, fun _ _ _ _ _ => rfl, fun _ h => .inl h, fun _ h => .inl h⟩
theorem Pk.of {R : Nat} {vO vN : Value} {w w' : World} (h : Below w.heap.size w w') : Pk R vO vN vO vN w w' := ⟨h.os, h.tape, h.output, h.size, fun k hk _ _ _ => h.block k hk, fun _ h => .inl h, fun _ h => .inl h⟩
theorem Pk.trans {R : Nat} {vO vN v1 n1 v2 n2 : Value} {a b c : World} (h : Pk R vO vN v1 n1 a b) (q : Pk R v1 n1 v2 n2 b c) : Pk R vO vN v2 n2 a c :=
  ⟨q.os.trans h.os, q.tape.trans h.tape, q.output.trans h.output, Nat.le_trans h.size q.size,
   fun k hk h1 h2 h3 => (q.block k (Nat.lt_of_lt_of_le hk h.size) h1 (fun e => by rcases h.nO k e with e | e; exact h2 e; omega) (fun e => by rcases h.nN k e with e | e; exact h3 e; omega)).trans (h.block k hk h1 h2 h3),
   fun k e => by rcases q.nO k e with e | e; exact h.nO k e; exact .inr (Nat.le_trans h.size e),
   fun k e => by rcases q.nN k e with e | e; exact h.nN k e; exact .inr (Nat.le_trans h.size e)⟩
theorem Pk.drewN {R : Nat} {vO vN v1 n1 : Value} {a b : World} (h : Pk R vO vN v1 n1 a b) (n : Nat) : Pk R vO vN v1 n1 a (b.drewN n) := ⟨h.os, h.tape, h.output, h.size, h.block, h.nO, h.nN⟩
theorem PP.drewN {W : World} {R bot : Nat} {vO vN : Value} {ts : List IT} {st : List ByteArray} (h : PP W R bot vO vN ts st) (n : Nat) : PP (W.drewN n) R bot vO vN ts st := h.keep ⟨rfl, rfl, rfl, Nat.le_refl _, fun _ _ => rfl⟩
/-- What lies ahead of the printer stays. -/
theorem Pk.below {R bot : Nat} {vO vN v1 n1 : Value} {ts : List IT} {st : List ByteArray} {a b : World} (h : Pk R vO vN v1 n1 a b) (p : PP a R bot vO vN ts st) : Below R a b :=
  ⟨h.os, h.tape, h.output, h.size, fun k hk => h.block k (by have := p.lt; have := p.hB; omega) (by omega) (fun e => by have := (ownLt p.own0 e).1; have := p.lt; omega) (fun e => by have := (ownLt p.own1 e).1; have := p.lt; omega)⟩
/-- A row of the printer is another now, and its cell. -/
theorem PP.put0 {w W1 w2 : World} {R bot : Nat} {vO vN v2 : Value} {ts ts' : List IT} {st : List ByteArray} (h : PP w R bot vO vN ts st) (hb : Below w.heap.size w W1) (hown : w2.ownsRow bot 39 4 v2 ts'.length (itCells ts')) (hgr : W1.grownBy w2 vO.ownBlock) (hbk : v2.ownBlock = vO.ownBlock ∨ v2.ownBlock = some W1.heap.size) :
    Pk R vO vN v2 vN w (w2.setCell ⟨R, 0, none⟩ v2) ∧ PP (w2.setCell ⟨R, 0, none⟩ v2) R bot v2 vN ts' st ∧ w2.cell? ⟨R, 0, none⟩ = some vO ∧ w2.frozen? ⟨R, 0, none⟩ = false := by
  have hR := h.lt
  have hk : ∀ k, k < w.heap.size → vO.ownBlock ≠ some k → w2.heap[k]? = w.heap[k]? := fun k hk hne => (hgr.block k (by have := hb.size; omega) (fun e => hne e.symm)).trans (hb.block k hk)
  have hRo : vO.ownBlock ≠ some R := fun e => by have := (ownLt h.own0 e).1; omega
  have hh := hk R (by have := h.hB; omega) hRo
  have hsz : w.heap.size ≤ w2.heap.size := Nat.le_trans hb.size hgr.size
  have c0 : w2.cell? ⟨R, 0, none⟩ = some vO := by rw [← h.c0]; simp only [World.cell?, hh]
  have c1 : w2.cell? ⟨R, 1, none⟩ = some vN := by rw [← h.c1]; simp only [World.cell?, hh]
  have hpf := ppf_app h.pf hb 0 (r := ⟨39, 4, v2, ts'.length, itCells ts'⟩) hown hgr hbk
  rw [p2_up0] at hpf
  have fz : ∀ o, w2.frozen? ⟨R, o, none⟩ = false := fun o => by rw [← h.fz o]; simp only [World.frozen?, hh]
  refine ⟨⟨hgr.os.trans hb.os, hgr.tape.trans hb.tape, hgr.output.trans hb.output, by simpa [World.setCell] using hsz, fun k hk1 hkR h1 _ => (Below.heap_setCell _ _ _ _ hkR).trans (hk k hk1 h1), fun k e => ?_, fun k e => .inl e⟩, ⟨World.cell?_setCell_same w2 ⟨R, 0, none⟩ _ c0, (World.cell?_setCell_other w2 _ _ _ (fun e => by injection e with _ e2; cases e2)).trans c1, fun o => by rw [World.frozen?_setCell]; exact fz o, hR, by simpa [World.setCell] using Nat.le_trans h.hB hsz, hpf.same fun k hk _ => Below.heap_setCell _ _ _ _ (show k ≠ R by omega)⟩, c0, fz 0⟩
  rcases hbk with e2 | e2
  · exact .inl (e2 ▸ e)
  · rw [e2] at e; injection e with e; exact .inr (by have := hb.size; omega)
theorem PP.put1 {w W1 w2 : World} {R bot : Nat} {vO vN v2 : Value} {ts : List IT} {st st' : List ByteArray} (h : PP w R bot vO vN ts st) (hb : Below w.heap.size w W1) (hown : w2.ownsRow bot 9 1 v2 st'.length (st'.map .string)) (hgr : W1.grownBy w2 vN.ownBlock) (hbk : v2.ownBlock = vN.ownBlock ∨ v2.ownBlock = some W1.heap.size) :
    Pk R vO vN vO v2 w (w2.setCell ⟨R, 1, none⟩ v2) ∧ PP (w2.setCell ⟨R, 1, none⟩ v2) R bot vO v2 ts st' ∧ w2.cell? ⟨R, 1, none⟩ = some vN ∧ w2.frozen? ⟨R, 1, none⟩ = false := by
  have hR := h.lt
  have hk : ∀ k, k < w.heap.size → vN.ownBlock ≠ some k → w2.heap[k]? = w.heap[k]? := fun k hk hne => (hgr.block k (by have := hb.size; omega) (fun e => hne e.symm)).trans (hb.block k hk)
  have hRo : vN.ownBlock ≠ some R := fun e => by have := (ownLt h.own1 e).1; omega
  have hh := hk R (by have := h.hB; omega) hRo
  have hsz : w.heap.size ≤ w2.heap.size := Nat.le_trans hb.size hgr.size
  have c0 : w2.cell? ⟨R, 0, none⟩ = some vO := by rw [← h.c0]; simp only [World.cell?, hh]
  have c1 : w2.cell? ⟨R, 1, none⟩ = some vN := by rw [← h.c1]; simp only [World.cell?, hh]
  have hpf := ppf_app h.pf hb 1 (r := ⟨9, 1, v2, st'.length, st'.map .string⟩) hown hgr hbk
  rw [p2_up1] at hpf
  have fz : ∀ o, w2.frozen? ⟨R, o, none⟩ = false := fun o => by rw [← h.fz o]; simp only [World.frozen?, hh]
  refine ⟨⟨hgr.os.trans hb.os, hgr.tape.trans hb.tape, hgr.output.trans hb.output, by simpa [World.setCell] using hsz, fun k hk1 hkR _ h1 => (Below.heap_setCell _ _ _ _ hkR).trans (hk k hk1 h1), fun k e => .inl e, fun k e => ?_⟩, ⟨(World.cell?_setCell_other w2 _ _ _ (fun e => by injection e with _ e2; cases e2)).trans c0, World.cell?_setCell_same w2 ⟨R, 1, none⟩ _ c1, fun o => by rw [World.frozen?_setCell]; exact fz o, hR, by simpa [World.setCell] using Nat.le_trans h.hB hsz, hpf.same fun k hk _ => Below.heap_setCell _ _ _ _ (show k ≠ R by omega)⟩, c1, fz 1⟩
  rcases hbk with e2 | e2
  · exact .inl (e2 ▸ e)
  · rw [e2] at e; injection e with e; exact .inr (by have := hb.size; omega)
/-- The innermost name goes. -/
theorem PP.cut1 {w : World} {R bot g n cap : Nat} {vO : Value} {ts : List IT} {st : List ByteArray} {nm : ByteArray} (h : PP w R bot vO (.slice (some ⟨g, 0, none⟩) (n + 1) cap) ts (st ++ [nm])) (hn : st.length = n) :
    Pk R vO (.slice (some ⟨g, 0, none⟩) (n + 1) cap) vO (.slice (some ⟨g, 0, none⟩) n cap) w (w.setCell ⟨R, 1, none⟩ (.slice (some ⟨g, 0, none⟩) n cap)) ∧ PP (w.setCell ⟨R, 1, none⟩ (.slice (some ⟨g, 0, none⟩) n cap)) R bot vO (.slice (some ⟨g, 0, none⟩) n cap) ts st := by
  have hR := h.lt
  subst hn
  have ho : w.ownsRow bot 9 1 (.slice (some ⟨g, 0, none⟩) (st.length + 1) cap) (st.length + 1) ((st ++ [nm]).map .string) := by
    have := h.own1
    rw [List.length_append] at this
    exact this
  have hf := own_front ho (m := st.length) (by omega)
  rw [Nat.mul_one, List.map_append, List.take_left' (by simp)] at hf
  have hpf := h.pf.upd 1 (W' := w) (r := ⟨9, 1, .slice (some ⟨g, 0, none⟩) st.length cap, st.length, st.map .string⟩) hf (fun k hk => .inl hk) (fun _ _ _ _ => rfl)
  rw [p2_up1] at hpf
  exact ⟨⟨rfl, rfl, rfl, by simp [World.setCell], fun k _ hkR _ _ => Below.heap_setCell _ _ _ _ hkR, fun k e => .inl e, fun k e => .inl e⟩, (World.cell?_setCell_other w _ _ _ (fun e => by injection e with _ e2; cases e2)).trans h.c0, World.cell?_setCell_same w ⟨R, 1, none⟩ _ h.c1, fun o => by rw [World.frozen?_setCell]; exact h.fz o, hR, by simpa [World.setCell] using h.hB, hpf.same fun k hk _ => Below.heap_setCell _ _ _ _ (show k ≠ R by omega)⟩
set_option maxHeartbeats 2000000 in
theorem ptell_any (R bot : Nat) (vO vN : Value) (ts : List IT) (st : List ByteArray) (t : IT) (w : World) (h : PP w R bot vO vN ts st) (hn : ts.length ≤ 1000000000) :
    Calls Tryz.prog 76 #[.pointer (some ⟨R, 0, none⟩), .agg #[.int .i64 t.k, .string t.nm, .string t.vl, .int .i64 t.p]] w fun e w' => e = .returned (.tuple #[]) ∧ ∃ vO', Pk R vO vN vO' vN w w' ∧ PP w' R bot vO' vN (ts ++ [t]) st := by
  obtain ⟨pp, cp, hv⟩ := own_sl h.own0
  subst hv
  have hB2 : Below w.heap.size w ((w.alloc (itO t)).alloc (itO t)).drew := (below_two w _ _).drew
  obtain ⟨v2, w2, hrun, hown, hgr, hbk⟩ := pap1 (t := 31) Tryz.underlying31 infoT rfl (by decide) (h.keep hB2).own0 (heap_two2 w (itO t) (itO t)) rfl (fun u hu => by simp only [List.mem_cons, List.not_mem_nil, or_false] at hu; rcases hu with rfl | rfl | rfl | rfl <;> rfl) hn (by decide) (Nat.le_trans h.hB hB2.size)
  have hown2 : w2.ownsRow bot 39 4 v2 (ts ++ [t]).length (itCells (ts ++ [t])) := by rw [itCells_snoc, List.length_append]; exact hown
  obtain ⟨hK, hP, q0, g0⟩ := h.put0 hB2 hown2 hgr hbk
  have HX : Hid (∃ vO', Pk R (.slice pp ts.length cp) vN vO' vN w (w2.setCell ⟨R, 0, none⟩ v2) ∧ PP (w2.setCell ⟨R, 0, none⟩ v2) R bot vO' vN (ts ++ [t]) st) := Hid.mkP ⟨_, hK, hP⟩
  have hRl : R < w.heap.size := Nat.lt_of_lt_of_le h.lt h.hB
  have e0 := h.c0
  have e0b : (w.alloc (itO t)).cell? ⟨R, 0, none⟩ = some (.slice pp ts.length cp) := ((bel1 w _).cell (p := ⟨R, 0, none⟩) hRl).trans e0
  have e0c : ((w.alloc (itO t)).alloc (itO t)).cell? ⟨R, 0, none⟩ = some (.slice pp ts.length cp) := ((below_two w _ _).cell (p := ⟨R, 0, none⟩) hRl).trans e0
  obtain ⟨p3, c3, hv2⟩ := own_sl hown
  subst hv2
  obtain ⟨k, nm, vl, p⟩ := t
  simp only [itO] at hrun e0b e0c HX ⊢
  clear hK hP hown hown2 hgr hbk hB2 h
  go_enter Tryz.func76, Tryz.ntmps76
  go_wp2_with fail
  go_region_law (refine step_append_ex ?_ (.tmp 8) (.tmp 10) _ _ ?_ _ _ ?_ ?_ (fun a b => a = _ ∧ b = w2) ⟨_, w2, hrun, rfl, rfl⟩ ?_; rfl; rfl; rfl; rfl; rintro _ _ ⟨rfl, rfl⟩)
  all_goals
    go_wp2_with fail
    go_end0
    exact ⟨rfl, HX.out⟩
end Go.Proofs.YtchfphakhmifmaaGreatDoor

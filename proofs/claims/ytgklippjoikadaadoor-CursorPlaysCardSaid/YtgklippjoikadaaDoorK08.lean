/- CuA, PFx, CuB, CuC. -/
import Derived.Test.YtgklippjoikadaaDoorK07
import Derived.Test.YtgklippjoikadaaDoorK01
import Derived.WalkSmall
import Derived.Deep.RegionHeld3
namespace Go.Proofs.YtgklippjoikadaaDoor
open Go.ChangeShapes Go.WideShapes Go.ChangeAt Go.RowKit

def ordV (hi : Bool) : Int := if hi then 1 else 0
/-- A cursor in block c from cell o on; its buffer lies in block g. -/
structure Cs (w : World) (c o g len cap st en : Nat) (hi : Bool) (f : Nat → Int) : Prop where
  lt : c < w.heap.size
  buf : w.cell? ⟨c, o, none⟩ = some (.slice (some ⟨g, 0, none⟩) len cap)
  fro : w.cell? ⟨c, o + 1, none⟩ = some (.int .i64 st)
  to : w.cell? ⟨c, o + 2, none⟩ = some (.int .i64 en)
  ord : w.cell? ⟨c, o + 3, none⟩ = some (.int .i64 (ordV hi))
  frz : w.frozen? ⟨c, o + 2, none⟩ = false
  row : w.rowIs g 5 cap (fun j => .int .u8 (f j))
  bd : ∀ j, 0 ≤ f j ∧ f j ≤ 255
  ne : c ≠ g
  h1 : st ≤ en
  h2 : en ≤ len
  h3 : len ≤ cap
  h4 : len ≤ 140737488355328
/-- Of what was there only the cursor's end (block c, cell o + 2) and its buffer (block g) may have turned. -/
structure Cb (c o g : Nat) (w w' : World) : Prop where
  os : w'.os = w.os
  tape : w'.tape = w.tape
  output : w'.output = w.output
  size : w.heap.size ≤ w'.heap.size
  block : ∀ k, k < w.heap.size → k ≠ c → k ≠ g → w'.heap[k]? = w.heap[k]?
  cell : ∀ i, i ≠ o + 2 → w'.cell? ⟨c, i, none⟩ = w.cell? ⟨c, i, none⟩
  froz : ∀ i, w'.frozen? ⟨c, i, none⟩ = w.frozen? ⟨c, i, none⟩
theorem Cb.refl (c o g : Nat) (w : World) : Cb c o g w w := ⟨rfl, rfl, rfl, Nat.le_refl _, fun _ _ _ _ => rfl, fun _ _ => rfl, fun _ => rfl⟩
theorem Cb.trans {c o g : Nat} {a b d : World} (h : Cb c o g a b) (k : Cb c o g b d) : Cb c o g a d :=
  ⟨k.os.trans h.os, k.tape.trans h.tape, k.output.trans h.output, Nat.le_trans h.size k.size, fun i hi h1 h2 => (k.block i (Nat.lt_of_lt_of_le hi h.size) h1 h2).trans (h.block i hi h1 h2),
    fun i hi => (k.cell i hi).trans (h.cell i hi), fun i => (k.froz i).trans (h.froz i)⟩
theorem Cb.of_below {c o g : Nat} {w w' : World} (h : Below w.heap.size w w') (hc : c < w.heap.size) : Cb c o g w w' :=
  ⟨h.os, h.tape, h.output, h.size, fun k hk _ _ => h.block k hk, fun i _ => h.cell (p := ⟨c, i, none⟩) hc, fun i => h.frozen (p := ⟨c, i, none⟩) hc⟩
theorem Cb.of_only {c o g : Nat} {w w' : World} (h : Only g w w') (hc : c < w.heap.size) (hn : c ≠ g) : Cb c o g w w' :=
  ⟨h.os, h.tape, h.output, h.size, fun k hk _ h2 => h.block k hk h2, fun _ _ => World.cell?_of_block (w := w) (h.block c hc hn), fun _ => World.frozen?_of_block (w := w) (h.block c hc hn)⟩
theorem Cb.below {c o g B : Nat} {w w' : World} (h : Cb c o g w w') (hc : B ≤ c) (hg : B ≤ g) (hB : B ≤ w.heap.size) : Below B w w' := ⟨h.os, h.tape, h.output, h.size, fun k hk => h.block k (by omega) (by omega) (by omega)⟩
theorem Cb.at {c o g : Nat} {w w' : World} (h : Cb c o g w w') {b i : Nat} (hb : b < w.heap.size) (h1 : b ≠ c) (h2 : b ≠ g) : w'.cell? ⟨b, i, none⟩ = w.cell? ⟨b, i, none⟩ := World.cell?_of_block (w := w) (h.block b hb h1 h2)
theorem Cb.kt {c o g : Nat} {w w' : World} (h : Cb c o g w w') (k : KT w) (hc : 0 < c) (hg : 0 < g) : KT w' := k.below (B := 0 + 1) (by omega) (h.below hc hg k.pos)
theorem Cs.below {w w' : World} {c o g len cap st en : Nat} {hi : Bool} {f : Nat → Int} (h : Cs w c o g len cap st en hi f) (hb : Below w.heap.size w w') : Cs w' c o g len cap st en hi f :=
  ⟨Nat.lt_of_lt_of_le h.lt hb.size, (hb.cell (p := ⟨c, o, none⟩) h.lt).trans h.buf, (hb.cell (p := ⟨c, o + 1, none⟩) h.lt).trans h.fro, (hb.cell (p := ⟨c, o + 2, none⟩) h.lt).trans h.to, (hb.cell (p := ⟨c, o + 3, none⟩) h.lt).trans h.ord,
    (hb.frozen (p := ⟨c, o + 2, none⟩) h.lt).trans h.frz, rowIs_below h.row hb h.row.lt, h.bd, h.ne, h.h1, h.h2, h.h3, h.h4⟩
/-- The buffer turned, the cursor not. -/
theorem Cs.only {w w' : World} {c o g len cap st en : Nat} {hi : Bool} {f f' : Nat → Int} (h : Cs w c o g len cap st en hi f) (ho : Only g w w') (hr : w'.rowIs g 5 cap (fun j => .int .u8 (f' j))) (hb : ∀ j, 0 ≤ f' j ∧ f' j ≤ 255) : Cs w' c o g len cap st en hi f' :=
  ⟨Nat.lt_of_lt_of_le h.lt ho.size, (ho.cell (p := ⟨c, o, none⟩) h.lt h.ne).trans h.buf, (ho.cell (p := ⟨c, o + 1, none⟩) h.lt h.ne).trans h.fro, (ho.cell (p := ⟨c, o + 2, none⟩) h.lt h.ne).trans h.to, (ho.cell (p := ⟨c, o + 3, none⟩) h.lt h.ne).trans h.ord,
    (World.frozen?_of_block (w := w) (ho.block c h.lt h.ne)).trans h.frz, hr, hb, h.ne, h.h1, h.h2, h.h3, h.h4⟩
/-- Another cursor's work. -/
theorem Cs.other {w w' : World} {c o g len cap st en : Nat} {hi : Bool} {f : Nat → Int} {c2 o2 g2 : Nat} (h : Cs w c o g len cap st en hi f) (hb : Cb c2 o2 g2 w w') (n1 : c ≠ c2) (n2 : c ≠ g2) (n3 : g ≠ c2) (n4 : g ≠ g2) : Cs w' c o g len cap st en hi f :=
  ⟨Nat.lt_of_lt_of_le h.lt hb.size, (hb.at h.lt n1 n2).trans h.buf, (hb.at h.lt n1 n2).trans h.fro, (hb.at h.lt n1 n2).trans h.to, (hb.at h.lt n1 n2).trans h.ord,
    (World.frozen?_of_block (w := w) (hb.block c h.lt n1 n2)).trans h.frz, h.row.of_block (hb.block g h.row.lt n3 n4), h.bd, h.ne, h.h1, h.h2, h.h3, h.h4⟩
/-- The end moves. -/
theorem Cs.moved {w : World} {c o g len cap st en : Nat} {hi : Bool} {f : Nat → Int} (h : Cs w c o g len cap st en hi f) (m : Nat) (h1 : st ≤ m) (h2 : m ≤ len) :
    Cs (w.setCell ⟨c, o + 2, none⟩ (.int .i64 m)) c o g len cap st m hi f ∧ Cb c o g w (w.setCell ⟨c, o + 2, none⟩ (.int .i64 m)) := by
  have hcl : ∀ b, b ≠ c → (w.setCell ⟨c, o + 2, none⟩ (.int .i64 m)).heap[b]? = w.heap[b]? := fun b hb => Below.heap_setCell w _ _ b hb
  have hoc : ∀ i, i ≠ o + 2 → (w.setCell ⟨c, o + 2, none⟩ (.int .i64 m)).cell? ⟨c, i, none⟩ = w.cell? ⟨c, i, none⟩ := fun i hi => World.cell?_setCell_other _ _ _ _ (fun e => hi (by simpa using congrArg Addr.off e.symm))
  refine ⟨⟨by simpa [World.setCell] using h.lt, (hoc _ (by omega)).trans h.buf, (hoc _ (by omega)).trans h.fro, ?_, (hoc _ (by omega)).trans h.ord, ?_, h.row.of_block (hcl g (Ne.symm h.ne)), h.bd, h.ne, h1, h2, h.h3, h.h4⟩, ?_⟩
  · exact World.cell?_setCell_same _ _ _ h.to
  · rw [World.frozen?_setCell]; exact h.frz
  · exact ⟨rfl, rfl, rfl, by simp [World.setCell], fun k _ h1 _ => hcl k h1, hoc, fun i => World.frozen?_setCell _ _ _ _⟩
end Go.Proofs.YtgklippjoikadaaDoor
namespace Go.Proofs.YtgklippjoikadaaDoor
open Go.ChangeShapes Go.WideShapes Go.ChangeAt Go.RowKit

theorem size_any (p : Int) (w : World) (h : KT w) : Calls Tryd.prog 39 #[.int .i64 p] w fun e w' => e = .returned (.int .i64 (sz p)) ∧ Below w.heap.size w w' := by
  have hf := field0
  go_enter Tryd.func39, Tryd.ntmps39
  go_wp2_with (go_at_call 63; refine (kindOf_any _ _ h).mono ?_; rintro e w' ⟨rfl, hbl⟩)
  go_ret
  exact ⟨rfl, hbl⟩
theorem max_any (p : Int) (w : World) (h : KT w) : Calls Tryd.prog 45 #[.int .i64 p] w fun e w' => e = .returned (.int .u64 (mx p)) ∧ Below w.heap.size w w' := by
  have hf := field4
  go_enter Tryd.func45, Tryd.ntmps45
  go_wp2_with (go_at_call 63; refine (kindOf_any _ _ h).mono ?_; rintro e w' ⟨rfl, hbl⟩)
  go_ret
  exact ⟨rfl, hbl⟩
end Go.Proofs.YtgklippjoikadaaDoor
namespace Go.Proofs.YtgklippjoikadaaDoor
open Go.ChangeShapes Go.WideShapes Go.ChangeAt Go.RowKit

theorem dN {w : World} {n : Nat} : Below w.heap.size w (w.drewN n) := below_drewN (Below.refl _ _) n
theorem At_any {w : World} {c g len cap st en : Nat} {hi : Bool} {f : Nat → Int} (h : Cs w c 0 g len cap st en hi f) :
    Calls Tryd.prog 11 #[.pointer (some ⟨c, 0, none⟩)] w fun e w' => e = .returned (.int .i64 en) ∧ w' = w := by
  have c2 := h.to
  go_enter Tryd.func11, Tryd.ntmps11
  go_wp2
  go_ret
  exact ⟨rfl, rfl⟩
theorem Start_any {w : World} {c g len cap st en : Nat} {hi : Bool} {f : Nat → Int} (h : Cs w c 0 g len cap st en hi f) :
    Calls Tryd.prog 10 #[.pointer (some ⟨c, 0, none⟩)] w fun e w' => e = .returned (.int .i64 st) ∧ w' = w := by
  have c1 := h.fro
  go_enter Tryd.func10, Tryd.ntmps10
  go_wp2
  go_ret
  exact ⟨rfl, rfl⟩
theorem Room_any {w : World} {c g len cap st en : Nat} {hi : Bool} {f : Nat → Int} (h : Cs w c 0 g len cap st en hi f) :
    Calls Tryd.prog 8 #[.pointer (some ⟨c, 0, none⟩)] w fun e w' => e = .returned (.int .i64 ((len : Int) - en)) ∧ ∃ m, w' = w.drewN m := by
  have c0 := h.buf
  have c2 := h.to
  have := h.h2
  have := h.h4
  go_enter Tryd.func8, Tryd.ntmps8
  go_wp2_with fail
  go_quiet (fail)
  go_wp2_with fail
  go_ret
  exact ⟨rfl, _, rfl⟩
theorem holds_any {w : World} {c g len cap st en : Nat} {hi : Bool} {f : Nat → Int} (h : Cs w c 0 g len cap st en hi f) (at' n : Int) (h0 : 0 ≤ n) (h1 : n ≤ 9223372036854775807) :
    Calls Tryd.prog 41 #[.pointer (some ⟨c, 0, none⟩), .int .i64 at', .int .i64 n] w fun e w' => e = .returned (.bool (inC st en at' n)) ∧ w' = w := by
  have c1 := h.fro
  have c2 := h.to
  have := h.h2
  have := h.h4
  by_cases hs : (st : Int) ≤ at'
  · have e : inC st en at' n = decide (at' ≤ (en : Int) - n) := by unfold inC; exact decide_eq_decide.2 (by omega)
    rw [e]
    clear e
    go_enter Tryd.func41, Tryd.ntmps41
    go_wp2
    go_ret
    exact ⟨rfl, rfl⟩
  · rw [inC_no (by omega)]
    have hd : decide ((st : Int) ≤ at') = false := decide_eq_false hs
    go_enter Tryd.func41, Tryd.ntmps41
    go_wp2
    go_ret
    exact ⟨rfl, rfl⟩
theorem grow_any {w : World} {c g len cap st en : Nat} {hi : Bool} {f : Nat → Int} (h : Cs w c 0 g len cap st en hi f) (n : Nat) (hn : en + n ≤ len) :
    Calls Tryd.prog 38 #[.pointer (some ⟨c, 0, none⟩), .int .i64 n] w fun e w' => e = .returned (.int .i64 en) ∧ Cs w' c 0 g len cap st (en + n) hi f ∧ Cb c 0 g w w' := by
  have c2 := h.to
  have f2 := h.frz
  have := h.h2
  have := h.h4
  have := h.lt
  have M := h.moved (en + n) (by have := h.h1; omega) hn
  have e : ((en + n : Nat) : Int) = (en : Int) + (n : Int) := by omega
  rw [e] at M
  clear h
  go_enter Tryd.func38, Tryd.ntmps38
  go_wp2
  go_ret
  exact ⟨rfl, M⟩
theorem Claim_any {w : World} {c g len cap st en : Nat} {hi : Bool} {f : Nat → Int} (h : Cs w c 0 g len cap st en hi f) (n : Int) :
    Calls Tryd.prog 14 #[.pointer (some ⟨c, 0, none⟩), .int .i64 n] w fun e w' => e = .returned (.tuple #[.int .i64 (clP len en n), .int .i64 (clE len en n)]) ∧ Cs w' c 0 g len cap st (clN len en n) hi f ∧ Cb c 0 g w w' := by
  have h2 := h.h2
  have h4 := h.h4
  unfold clP clN
  rcases clE_cases len en n with ⟨e, hn⟩ | ⟨e, hn, hr⟩ | ⟨e, hn, hr⟩
  · rw [e]
    have H : Hid (Cs w c 0 g len cap st en hi f) := h
    clear h e
    go_enter Tryd.func14, Tryd.ntmps14
    go_wp2
    go_ret2
    exact ⟨rfl, H.out, Cb.refl _ _ _ _⟩
  · rw [e]
    have H : Hid (Cs w c 0 g len cap st en hi f) := h
    have R := Room_any h
    clear h e
    go_enter Tryd.func14, Tryd.ntmps14
    go_wp2_with (go_at_call 8; refine R.mono ?_; rintro e w1 ⟨rfl, m, rfl⟩)
    go_ret2
    exact ⟨rfl, H.out.below dN, Cb.of_below dN H.out.lt⟩
  · rw [e]
    obtain ⟨m, rfl⟩ : ∃ m : Nat, n = m := ⟨n.toNat, by omega⟩
    have R := Room_any h
    have G := fun n => grow_any (h.below (dN (n := n))) m (by omega)
    have hB := fun n => Cb.of_below (o := 0) (g := g) (dN (w := w) (n := n)) h.lt
    clear h e
    go_enter Tryd.func14, Tryd.ntmps14
    go_wp2_with (first
      | (go_at_call 8; refine R.mono ?_; rintro e w1 ⟨rfl, m1, rfl⟩)
      | (go_at_call 38; refine (G _).mono ?_; rintro e w2 ⟨rfl, G1, G2⟩))
    go_ret2
    exact ⟨rfl, G1, (hB _).trans G2⟩
end Go.Proofs.YtgklippjoikadaaDoor
namespace Go.Proofs.YtgklippjoikadaaDoor
open Go.ChangeShapes Go.WideShapes Go.ChangeAt Go.RowKit

theorem sz_toNat {p : Int} (h : sz p ≠ 0) : sz p = ((sz p).toNat : Int) ∧ ((sz p).toNat = 1 ∨ (sz p).toNat = 2 ∨ (sz p).toNat = 4 ∨ (sz p).toNat = 8) := by
  have := sz_cases p
  omega
theorem Get_cur {w : World} {c g len cap st en : Nat} {hi : Bool} {f : Nat → Int} (h : Cs w c 0 g len cap st en hi f) (kt : KT w) (at' p : Int) (hp : sz p ≠ 0) (hin : inC st en at' (sz p) = true) {W : World} (hW : Below w.heap.size w W) :
    Calls Tryd.prog 47 #[.slice (some ⟨g, 0, none⟩) len cap, .int .i64 at', .int .i64 p, .int .i64 (ordV hi)] W fun e w' => e = .returned (.tuple #[.int .u64 (wrd hi f at'.toNat p), .int .i64 0]) ∧ Below W.heap.size W w' := by
  obtain ⟨e1, e2⟩ := sz_toNat hp
  have hb := inC_of hin
  have h2 := h.h2
  have h3 := h.h3
  have h4 := h.h4
  have hh := h.below hW
  obtain ⟨a, rfl⟩ : ∃ a : Nat, at' = a := ⟨at'.toNat, by omega⟩
  have ha : ((a : Int)).toNat = a := by omega
  rw [ha]
  unfold wrd
  rw [e1]
  have e3 : (((sz p).toNat : Int)).toNat = (sz p).toNat := by omega
  rw [e3]
  refine Get_ok g 0 len cap a p _ hi (sz p).toNat (fun k => f (a + k)) W (kt.below kt.pos hW) rfl e1 e2 (fun j => hh.bd _) (fun j hj => ?_) (by omega) (by omega) hh.row.lt
  rw [Nat.zero_add]
  exact hh.row.cell (by omega)
theorem GetCu_any {w : World} {c g len cap st en : Nat} {hi : Bool} {f : Nat → Int} (h : Cs w c 0 g len cap st en hi f) (kt : KT w) (at' p : Int) :
    Calls Tryd.prog 19 #[.pointer (some ⟨c, 0, none⟩), .int .i64 at', .int .i64 p] w fun e w' => e = .returned (.tuple #[.int .u64 (getW hi st en f at' p), .int .i64 (getE st en at' p)]) ∧ Below w.heap.size w w' := by
  unfold getW getE
  have S := size_any p w kt
  have hsz := sz_cases p
  by_cases hp : sz p = 0
  · rw [if_pos hp]
    have hp' : (sz p == 0) = true := by rw [hp]; rfl
    clear hp
    go_enter Tryd.func19, Tryd.ntmps19
    go_wp2_with (go_at_call 39; refine S.mono ?_; rintro e w1 ⟨rfl, hb1⟩)
    go_ret2
    exact ⟨rfl, hb1⟩
  · rw [if_neg hp]
    have hp' : (sz p == 0) = false := by simpa using hp
    by_cases hin : inC st en at' (sz p) = true
    · rw [if_pos hin]
      have G := fun W hW => Get_cur h kt at' p hp hin (W := W) hW
      have HO := fun W hW => holds_any (h.below (w' := W) hW) at' (sz p) (by omega) (by omega)
      have B := fun W hW => (h.below (w' := W) hW).buf
      have O := fun W hW => (h.below (w' := W) hW).ord
      have z := h.lt
      rw [hin] at HO
      clear hin h hp
      go_enter Tryd.func19, Tryd.ntmps19
      go_wp2_with (first
        | (go_at_call 39; refine S.mono ?_; rintro e w1 ⟨rfl, hb1⟩; have B1 := B _ hb1; have O1 := O _ hb1)
        | (go_at_call 41; refine (HO _ hb1).mono ?_; rintro e w2 ⟨rfl, he⟩; replace he := he.symm; subst he))
      go_region_held3 (fun X => X.cell? ⟨c, 0, none⟩ = some (.slice (some ⟨g, 0, none⟩) len cap) ∧ X.cell? ⟨c, 3, none⟩ = some (.int .i64 (ordV hi))) (first | assumption | (refine ⟨?_, ?_⟩ <;> assumption) | go_keep) (first
        | (go_at_call 47; refine (G _ hb1.drew).mono ?_; rintro _ w3 ⟨rfl, hb3⟩; have hb4 := hb1.drew.trans (hb3.mono hb1.drew.size); have B3 := B _ hb4; have O3 := O _ hb4))
      all_goals
        go_wp2_with fail
        go_ret2
        exact ⟨rfl, hb4⟩
    · have hin' : inC st en at' (sz p) = false := by simpa using hin
      rw [if_neg hin]
      have HO := fun W hW => holds_any (h.below (w' := W) hW) at' (sz p) (by omega) (by omega)
      rw [hin'] at HO
      clear hin h hp
      go_enter Tryd.func19, Tryd.ntmps19
      go_wp2_with (first
        | (go_at_call 39; refine S.mono ?_; rintro e w1 ⟨rfl, hb1⟩)
        | (go_at_call 41; refine (HO _ hb1).mono ?_; rintro e w2 ⟨rfl, rfl⟩))
      go_ret2
      exact ⟨rfl, hb1⟩
theorem only_below {g : Nat} {w W w' : World} (h : Only g w W) (hb : Below w.heap.size W w') : Only g w w' :=
  ⟨hb.os.trans h.os, hb.tape.trans h.tape, hb.output.trans h.output, Nat.le_trans h.size hb.size, fun k hk hg => (hb.block k hk).trans (h.block k hk hg)⟩
theorem Put_cur {w : World} {c g len cap st en : Nat} {hi : Bool} {f : Nat → Int} (h : Cs w c 0 g len cap st en hi f) (kt : KT w) (at' p x : Int) (hp : sz p ≠ 0) (hx0 : 0 ≤ x) (hx1 : x < 18446744073709551616) (hf : fitsF (sz p) (rd p) x = true) (hin : inC st en at' (sz p) = true) {W : World} (hW : Below w.heap.size w W) :
    Calls Tryd.prog 42 #[.slice (some ⟨g, 0, none⟩) len cap, .int .i64 at', .int .i64 p, .int .i64 (ordV hi), .int .u64 x] W fun e w' => e = .returned (.int .i64 0) ∧ Only g W w' ∧ w'.rowIs g 5 cap (fun j => .int .u8 (pb hi f at'.toNat p x j)) := by
  obtain ⟨e1, e2⟩ := sz_toNat hp
  have hb := inC_of hin
  have h2 := h.h2
  have h3 := h.h3
  have h4 := h.h4
  have hh := h.below hW
  obtain ⟨a, rfl⟩ : ∃ a : Nat, at' = a := ⟨at'.toNat, by omega⟩
  have ha : ((a : Int)).toNat = a := by omega
  rw [ha]
  refine (Put_ok g 0 len cap a p _ x hi (sz p).toNat W (kt.below kt.pos hW) rfl e1 e2 hx0 hx1 hf (fun j hj => ?_) (fun j hj => ?_) (by omega) (by omega) hh.row.lt).mono ?_
  · rw [Nat.zero_add]
    exact ⟨_, hh.row.cell (by omega)⟩
  · exact hh.row.frozen _
  · rintro _ w' ⟨rfl, hB⟩
    rw [Nat.zero_add] at hB
    have R1 := rowIs_setBytes hi (sz p).toNat x a hh.row (sz p).toNat
    refine ⟨rfl, only_below (only_setCells _ _ _ (Only.refl _ _)) hB, (R1.of_block (hB.block g hh.row.lt)).congr fun j _ => ?_⟩
    unfold pb
    by_cases c1 : a ≤ j ∧ j < a + (sz p).toNat
    · rw [if_pos c1, if_pos c1]
    · rw [if_neg c1, if_neg c1]
theorem PutCu_any {w : World} {c g len cap st en : Nat} {hi : Bool} {f : Nat → Int} (h : Cs w c 0 g len cap st en hi f) (kt : KT w) (at' p x : Int) (hx0 : 0 ≤ x) (hx1 : x < 18446744073709551616) :
    Calls Tryd.prog 15 #[.pointer (some ⟨c, 0, none⟩), .int .i64 at', .int .i64 p, .int .u64 x] w fun e w' => e = .returned (.int .i64 (putE st en at' p x)) ∧ Cs w' c 0 g len cap st en hi (putF hi st en f at' p x) ∧ Only g w w' := by
  unfold putF putE
  have S := size_any p w kt
  have hsz := sz_cases p
  have H : Hid (Cs w c 0 g len cap st en hi f) := h
  by_cases hp : sz p = 0
  · rw [if_pos hp, if_neg (by decide)]
    have hp' : (sz p == 0) = true := by rw [hp]; rfl
    clear hp h
    go_enter Tryd.func15, Tryd.ntmps15
    go_wp2_with (go_at_call 39; refine S.mono ?_; rintro e w1 ⟨rfl, hb1⟩)
    go_ret
    exact ⟨rfl, H.out.below hb1, Only.of_below hb1⟩
  · rw [if_neg hp]
    have hp' : (sz p == 0) = false := by simpa using hp
    have F := fun W hW => Fits_any p x W (kt.below (w' := W) kt.pos hW) hx0 hx1
    have T : ∀ {a b d : World}, Below a.heap.size a b → Below b.heap.size b d → Below a.heap.size a d := fun h1 h2 => h1.trans (h2.mono h1.size)
    by_cases hf : fitsF (sz p) (rd p) x = true
    · rw [if_pos hf]
      have HO := fun W hW => holds_any (h.below (w' := W) hW) at' (sz p) (by omega) (by omega)
      by_cases hin : inC st en at' (sz p) = true
      · rw [if_pos hin, if_pos rfl]
        have G := fun W hW => Put_cur h kt at' p x hp hx0 hx1 hf hin (W := W) hW
        have B := fun W hW => (h.below (w' := W) hW).buf
        have O := fun W hW => (h.below (w' := W) hW).ord
        have z := h.lt
        have zn := h.ne
        rw [hin] at HO
        rw [hf] at F
        clear hin h hp hf
        go_enter Tryd.func15, Tryd.ntmps15
        go_wp2_with (first
          | (go_at_call 39; refine S.mono ?_; rintro e w1 ⟨rfl, hb1⟩)
          | (go_at_call 40; refine (F _ hb1).mono ?_; rintro e w2 ⟨rfl, hb2⟩; replace hb2 := T hb1 hb2; have B1 := B _ hb2; have O1 := O _ hb2)
          | (go_at_call 41; refine (HO _ hb2).mono ?_; rintro e w3 ⟨rfl, he⟩; replace he := he.symm; subst he))
        go_region_held3 (fun X => X.cell? ⟨c, 0, none⟩ = some (.slice (some ⟨g, 0, none⟩) len cap) ∧ X.cell? ⟨c, 3, none⟩ = some (.int .i64 (ordV hi))) (first | assumption | (refine ⟨?_, ?_⟩ <;> assumption) | go_keep) (first
          | (go_at_call 42; refine (G _ hb2.drew).mono ?_; rintro _ w4 ⟨rfl, hb4, hr4⟩; have B3 := (hb4.cell (p := ⟨c, 0, none⟩) (Nat.lt_of_lt_of_le z hb2.size) zn).trans B1; have O3 := (hb4.cell (p := ⟨c, 3, none⟩) (Nat.lt_of_lt_of_le z hb2.size) zn).trans O1))
        all_goals
          go_wp2_with fail
          go_ret
          have ho : Only g w w4 := ⟨hb4.os.trans hb2.os, hb4.tape.trans hb2.tape, hb4.output.trans hb2.output, Nat.le_trans hb2.size hb4.size, fun k hk hg => (hb4.block k (Nat.lt_of_lt_of_le hk hb2.size) hg).trans (hb2.block k hk)⟩
          exact ⟨rfl, H.out.only ho hr4 (pb_bd hi H.out.bd _ _ _), ho⟩
      · have hin' : inC st en at' (sz p) = false := by simpa using hin
        rw [if_neg hin, if_neg (by decide)]
        rw [hin'] at HO
        rw [hf] at F
        clear hin h hp hf
        go_enter Tryd.func15, Tryd.ntmps15
        go_wp2_with (first
          | (go_at_call 39; refine S.mono ?_; rintro e w1 ⟨rfl, hb1⟩)
          | (go_at_call 40; refine (F _ hb1).mono ?_; rintro e w2 ⟨rfl, hb2⟩; replace hb2 := T hb1 hb2)
          | (go_at_call 41; refine (HO _ hb2).mono ?_; rintro e w3 ⟨rfl, he⟩; replace he := he.symm; subst he))
        go_ret
        exact ⟨rfl, H.out.below hb2, Only.of_below hb2⟩
    · have hf' : fitsF (sz p) (rd p) x = false := by simpa using hf
      rw [if_neg hf, if_neg (by decide)]
      rw [hf'] at F
      clear h hp hf hf'
      go_enter Tryd.func15, Tryd.ntmps15
      go_wp2_with (first
        | (go_at_call 39; refine S.mono ?_; rintro e w1 ⟨rfl, hb1⟩)
        | (go_at_call 40; refine (F _ hb1).mono ?_; rintro e w2 ⟨rfl, hb2⟩; replace hb2 := T hb1 hb2))
      go_ret
      exact ⟨rfl, H.out.below hb2, Only.of_below hb2⟩
end Go.Proofs.YtgklippjoikadaaDoor

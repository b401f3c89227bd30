/- Feed. -/
import Derived.Test.YtnicdehbedcdpaaFmO
import Derived.Defers
import Derived.Deep.CutBlock
namespace Go.Proofs.Ytnicdehbedcdpaa
open Go.ChangeShapes Go.WideShapes Go.ChangeAt Go.RowKit

/-- A region that ends as it should. -/
def OnlyN (Q : Exit → Act → World → Prop) : Exit → Act → World → Prop := fun e a w => match e with
  | .normal => Q .normal a w
  | _ => False
theorem wp_onlyN {P : Program} {Q : Exit → Act → World → Prop} {c : Code} {a : Act} {w : World} (h : c.wp P (OnlyN Q) a w) : c.wp P Q a w :=
  wp_mono h fun e a w h => by
    unfold OnlyN at h
    split at h
    · exact h
    · exact h.elim
theorem mkfF : ∀ (fn : Fn) (first cap : Array Value) (w : World), (Instr.makeFunc fn first cap).run Try.prog w = .ok (.func fn first cap) w := fun _ _ _ _ => rfl
theorem Fr.err {w : World} {B R : Nat} {v : Value} {L : List Nat} {fr : Nat} {lim er : Int} (h : Fr w B R v L fr lim er) (e : Int) : Fr (w.setCell ⟨R, 3, none⟩ (.int .i64 e)) B R v L fr lim e := by
  obtain ⟨a, b, c, d⟩ := h.set 3 (.int .i64 e)
  exact ⟨a 0 _ (by decide) h.c0, a 1 _ (by decide) h.c1, a 2 _ (by decide) h.c2, World.cell?_setCell_same w ⟨R, 3, none⟩ _ h.c3, b, c, h.le, h.ne, h.by_, h.len, h.lo, d⟩
theorem FeedD_ok {w : World} {B R : Nat} {v : Value} {L : List Nat} {fr : Nat} {lim er : Int} (h : Fr w B R v L fr lim er) (E X : Addr) (u : FrameMode) (hE : w.cell? E = some (.int .i64 0)) (hX : w.cell? X = some (.pointer (some ⟨R, 0, none⟩))) (hn : E.block ≠ R) :
    CallsD Try.prog 27 #[.pointer (some E), .pointer (some X)] u w fun r u' w' => u' = u ∧ (r = .returned (.tuple #[]) ∧ w' = w.setCell ⟨R, 3, none⟩ (.int .i64 0)) := by
  have c3 := h.c3
  have f3 := h.fz 3
  have hE2 : (w.setCell ⟨R, 3, none⟩ (.int .i64 0)).cell? E = some (.int .i64 0) := (World.cell?_setCell_other w _ _ _ (fun e => hn (by rw [← e]))).trans hE
  go_enter_d Try.func27, Try.ntmps27
  go_wp2_with fail
  go_end0
  exact ⟨rfl, rfl⟩
theorem FeedD_err {w : World} {B R : Nat} {v : Value} {L : List Nat} {fr : Nat} {lim er e : Int} (h : Fr w B R v L fr lim er) (E X : Addr) (u : FrameMode) (hE : w.cell? E = some (.int .i64 e)) (hX : w.cell? X = some (.pointer (some ⟨R, 0, none⟩))) (hn : E.block ≠ R) (hn2 : X.block ≠ R) (he : e ≠ 0) :
    CallsD Try.prog 27 #[.pointer (some E), .pointer (some X)] u w fun r u' w' => u' = u ∧ (r = .returned (.tuple #[]) ∧ Fr w' B R (.slice none 0 0) [] 0 lim e ∧ Kx R none w w') := by
  have c3 := h.c3
  have f3 := h.fz 3
  have hE2 : (w.setCell ⟨R, 3, none⟩ (.int .i64 e)).cell? E = some (.int .i64 e) := (World.cell?_setCell_other w _ _ _ (fun e => hn (by rw [← e]))).trans hE
  have hX2 : (w.setCell ⟨R, 3, none⟩ (.int .i64 e)).cell? X = some (.pointer (some ⟨R, 0, none⟩)) := (World.cell?_setCell_other w _ _ _ (fun e => hn2 (by rw [← e]))).trans hX
  have hD := drop_any (h.err e)
  have hb1 : (e == 0) = false := beq_eq_false_iff_ne.2 he
  have hb2 : (e != 0) = true := by rw [bne, hb1]; rfl
  clear he
  go_enter_d Try.func27, Try.ntmps27
  go_wp2_with (go_at_call 28; refine hD.mono ?_; rintro _ w1 ⟨rfl, q1, q2⟩)
  go_end0
  exact ⟨rfl, q1, (Kx.set R 3 none w _).trans q2⟩
set_option maxHeartbeats 2000000 in
/-- A Feed of a stream that is refused. -/
theorem Feed_ref {w : World} {B R : Nat} {v x : Value} {L : List Nat} {fr : Nat} {lim er : Int} (h : Fr w B R v L fr lim er) (he : er ≠ 0) :
    Calls Try.prog 12 #[.pointer (some ⟨R, 0, none⟩), x] w fun e w' => e = .returned (.tuple #[.slice none 0 0, .int .i64 er]) ∧ Fr w' B R (.slice none 0 0) [] 0 lim er ∧ Kx R none w w' := by
  have hb1 : (er == 0) = false := beq_eq_false_iff_ne.2 he
  have hb2 : (er != 0) = true := by rw [bne, hb1]; rfl
  obtain ⟨W1, hW1⟩ : ∃ W1, W1 = (w.alloc (.cells #[.pointer (some ⟨R, 0, none⟩)] 27)).alloc (.cells #[.int .i64 0] 30) := ⟨_, rfl⟩
  have b1 : Below w.heap.size w W1 := by rw [hW1]; exact ((Below.refl _ _).alloc (Nat.le_refl _) _).alloc (by simp) _
  have z1 : W1.heap.size = w.heap.size + 2 := by rw [hW1]; simp
  have c0 : W1.heap[w.heap.size]? = some (.cells #[.pointer (some ⟨R, 0, none⟩)] 27 (0, 0)) := by rw [hW1]; exact (heap_alloc_old _ _ (by simp)).trans (heap_nw w _)
  have c1 : W1.heap[w.heap.size + 1]? = some (.cells #[.int .i64 0] 30 (0, 0)) := by
    rw [hW1]
    have := heap_nw (w.alloc (.cells #[.pointer (some ⟨R, 0, none⟩)] 27)) (.cells #[.int .i64 0] 30)
    rwa [World.size_alloc] at this
  have hR := h.lt
  have hF := h.below b1
  have k0 := cellA c0 0
  have k1 := cellA c1 0
  have f1 := frozA c1 0
  have e3 := hF.c3
  have hmf := mkfF
  clear he
  go_enter_defers Try.func12, Try.ntmps12
  go_upto_region 2 with fail
  rw [← hW1]
  clear hW1
  go_upto_region 3 with fail
  have hv : ∀ k, v.ownBlock = some k → k < w.heap.size := fun k hk => (h.buf.lt hk).2
  have fW := hF.kx (w' := W1.setCell ⟨w.heap.size + 1, 0, none⟩ (.int .i64 er)) (by simp [World.setCell]) (Below.heap_setCell _ _ _ _ (by show R ≠ w.heap.size + 1; omega)) (fun k hk => Below.heap_setCell _ _ _ _ (by have := hv k hk; show k ≠ w.heap.size + 1; omega))
  have xE := World.cell?_setCell_same W1 ⟨w.heap.size + 1, 0, none⟩ (.int .i64 er) k1
  have xX := (World.cell?_setCell_other W1 ⟨w.heap.size + 1, 0, none⟩ ⟨w.heap.size, 0, none⟩ (.int .i64 er) (by simp)).trans k0
  have kW : Kx R none w (W1.setCell ⟨w.heap.size + 1, 0, none⟩ (.int .i64 er)) := ⟨b1.os, b1.tape, b1.output, by simpa [World.setCell] using b1.size, fun k hk _ _ => (Below.heap_setCell _ _ _ _ (by show k ≠ w.heap.size + 1; omega)).trans (b1.block k hk)⟩
  have zW : (W1.setCell ⟨w.heap.size + 1, 0, none⟩ (.int .i64 er)).heap.size = w.heap.size + 2 := by simpa [World.setCell] using z1
  refine wp_onlyN ?_
  go_region_with fail
  all_goals
    have fV := fW.below (w' := (W1.setCell ⟨w.heap.size + 1, 0, none⟩ (.int .i64 er)).drew) (Below.refl _ _).drew
    have yE : (W1.setCell ⟨w.heap.size + 1, 0, none⟩ (.int .i64 er)).drew.cell? ⟨w.heap.size + 1, 0, none⟩ = some (.int .i64 er) := xE
    have yX : (W1.setCell ⟨w.heap.size + 1, 0, none⟩ (.int .i64 er)).drew.cell? ⟨w.heap.size, 0, none⟩ = some (.pointer (some ⟨R, 0, none⟩)) := xX
    have kV : Kx R none w (W1.setCell ⟨w.heap.size + 1, 0, none⟩ (.int .i64 er)).drew := kW.trans (Kx.of (Below.refl _ _).drew)
    have zV : (W1.setCell ⟨w.heap.size + 1, 0, none⟩ (.int .i64 er)).drew.heap.size = w.heap.size + 2 := zW
    generalize (W1.setCell ⟨w.heap.size + 1, 0, none⟩ (.int .i64 er)).drew = V at *
    unfold OnlyN
    go_wp2_with fail
    refine leaves_cons (f := 27) (args := #[.pointer (some ⟨w.heap.size + 1, 0, none⟩), .pointer (some ⟨w.heap.size, 0, none⟩)]) (by simp) (by simp [go_sem]) ?_
    refine (FeedD_err fV ⟨w.heap.size + 1, 0, none⟩ ⟨w.heap.size, 0, none⟩ _ yE yX (by show w.heap.size + 1 ≠ R; omega) (by show w.heap.size ≠ R; omega) (by intro e; rw [e] at hb1; cases hb1)).mono ?_
    rintro _ u' w2 ⟨rfl, rfl, q1, q2⟩
    have yR := (World.cell?_of_block (a := ⟨w.heap.size + 1, 0, none⟩) (q2.block (w.heap.size + 1) (by omega) (by omega) (by simp))).trans yE
    refine ⟨.tuple #[.slice none 0 0, .int .i64 er], ?_, rfl, q1, kV.trans q2⟩
    simp [results, Try.results12, go_sem, yR]
/-- What a Feed leaves. -/
def fdL (lim : Int) (D : List Nat) : List Nat := if (cutZ lim D).2.2 = 0 then D.drop (cutZ lim D).2.1 else []
def FeedP (w : World) (B R : Nat) (v : Value) (lim : Int) (D : List Nat) (e : Ending) (w' : World) : Prop :=
  ∃ pv v', e = .returned (.tuple #[pv, .int .i64 (cutZ lim D).2.2]) ∧ POwn w' w.heap.size pv (cutZ lim D).1 ∧ Fr w' B R v' (fdL lim D) 0 lim (cutZ lim D).2.2 ∧ Buf w' B v' (fdL lim D) ∧ Kx R v.ownBlock w w' ∧
    (∀ k, v'.ownBlock = some k → v.ownBlock = some k ∨ w.heap.size ≤ k) ∧ ∀ k, pv.ownBlock = some k → v'.ownBlock ≠ some k
set_option maxHeartbeats 4000000 in
/-- A Feed of a stream that isn't refused. -/
theorem Feed_ok {w : World} {B R cx : Nat} {px : Option Addr} {v : Value} {L M : List Nat} {lim : Int} (h : Fr w B R v L 0 lim 0) (hb : Buf w B v L) (hS : ∀ W, Below w.heap.size w W → Src Try.prog 1 33 (.slice px M.length cx) M.length (M.map cU) W) (hl : L.length + M.length ≤ 140737488355328) (hM : ∀ b ∈ M, b < 256) (hn : (cutZ lim (L ++ M)).1.length ≤ 4398046511103) :
    Calls Try.prog 12 #[.pointer (some ⟨R, 0, none⟩), .slice px M.length cx] w (FeedP w B R v lim (L ++ M)) := by
  obtain ⟨W1, hW1⟩ : ∃ W1, W1 = (w.alloc (.cells #[.pointer (some ⟨R, 0, none⟩)] 27)).alloc (.cells #[.int .i64 0] 30) := ⟨_, rfl⟩
  have b1 : Below w.heap.size w W1 := by rw [hW1]; exact ((Below.refl _ _).alloc (Nat.le_refl _) _).alloc (by simp) _
  have z1 : W1.heap.size = w.heap.size + 2 := by rw [hW1]; simp
  have c0 : W1.heap[w.heap.size]? = some (.cells #[.pointer (some ⟨R, 0, none⟩)] 27 (0, 0)) := by rw [hW1]; exact (heap_alloc_old _ _ (by simp)).trans (heap_nw w _)
  have c1 : W1.heap[w.heap.size + 1]? = some (.cells #[.int .i64 0] 30 (0, 0)) := by
    rw [hW1]
    have := heap_nw (w.alloc (.cells #[.pointer (some ⟨R, 0, none⟩)] 27)) (.cells #[.int .i64 0] 30)
    rwa [World.size_alloc] at this
  have hR := h.lt
  have hF := h.below b1
  have hBf := hb.below b1
  have k0 := cellA c0 0
  have k1 := cellA c1 0
  have f1 := frozA c1 0
  have e3 := hF.c3
  have hv : ∀ k, v.ownBlock = some k → k < w.heap.size := fun k hk => (h.buf.lt hk).2
  have hadd := add_any hF hBf (hS W1 b1) hl hM
  have hmf := mkfF
  have hlD : (L ++ M).length ≤ 140737488355328 := by rw [List.length_append]; exact hl
  have hcut : ∀ w2 v2, Fr w2 B R v2 (L ++ M) 0 lim 0 → Calls Try.prog 30 #[.pointer (some ⟨R, 0, none⟩)] w2 (CutP w2 B R v2 (L ++ M) 0 lim 0 (cutZ lim (L ++ M))) := fun w2 v2 h2 => by
    have := cut_any h2 (by rw [List.drop_zero]; exact hn)
    rwa [List.drop_zero] at this
  have hle : (cutZ lim (L ++ M)).2.1 ≤ (L ++ M).length := (cutZ_le lim (L ++ M)).1
  have hlo := h.lo
  unfold FeedP fdL
  clear h hb hS hM hl
  generalize cutZ lim (L ++ M) = C at hn hcut hle ⊢
  obtain ⟨LL, hLL0⟩ : ∃ x, x = (if C.2.2 = 0 then (L ++ M).drop C.2.1 else []) := ⟨_, rfl⟩
  rw [← hLL0]
  have hLL : Go.RowKit.Hid (LL = (if C.2.2 = 0 then (L ++ M).drop C.2.1 else [])) := hLL0
  clear hLL0
  go_enter_defers Try.func12, Try.ntmps12
  go_upto_region 2 with fail
  rw [← hW1]
  clear hW1
  go_upto_region 5 with (go_at_call 29; refine hadd.mono ?_; rintro _ w2 ⟨rfl, v2, hF2, hB2, hK2, hv2⟩; have k0 := (World.cell?_of_block (a := ⟨w.heap.size, 0, none⟩) (hK2.block w.heap.size (by omega) (by omega) (fun e => by have := hv _ e; omega))).trans k0; have hE2 := (hK2.block (w.heap.size + 1) (by omega) (by omega) (fun e => by have := hv _ e; omega)).trans c1)
  have hE2z := cellA hE2 0
  have hE2f := frozA hE2 0
  have hz2 := hK2.size
  have hvl2 : ∀ k, v2.ownBlock = some k → k < w2.heap.size := fun k hk => (hF2.buf.lt hk).2
  have hcut2 := hcut w2 v2 hF2
  clear hcut hadd
  go_upto_region 6 with (go_at_call 30; refine hcut2.mono ?_; rintro _ w3 ⟨pv, rfl, hO3, hF3, hK3⟩; have k3 := (World.cell?_of_block (a := ⟨w.heap.size, 0, none⟩) (hK3.block w.heap.size (by omega) (by omega) (by simp))).trans k0; have hE3 := (hK3.block (w.heap.size + 1) (by omega) (by omega) (by simp)).trans hE2; have e30 := cellA hE3 0; have e3f := frozA hE3 0)
  have kx : ∀ k, k ≠ w.heap.size + 1 → (w3.setCell ⟨w.heap.size + 1, 0, none⟩ (.int .i64 C.2.2)).heap[k]? = w3.heap[k]? := fun k hk => Below.heap_setCell _ _ _ _ hk
  have hz3 := hK3.size
  have hB3 : Buf w3 B v2 (L ++ M) := ownSame hB2 fun k hk => hK3.block k (hvl2 k hk) (fun e => hF2.ne (e ▸ hk)) (by simp)
  have hvE : ∀ k, v2.ownBlock = some k → k ≠ w.heap.size + 1 := fun k hk e => by
    rcases hv2 k hk with h1 | h1
    · have := hv k h1; omega
    · rw [z1] at h1; omega
  have hF4 := hF3.kx (w' := w3.setCell ⟨w.heap.size + 1, 0, none⟩ (.int .i64 C.2.2)) (by simp [World.setCell]) (kx R (by omega)) (fun k hk => kx k (hvE k hk))
  have hB4 : Buf (w3.setCell ⟨w.heap.size + 1, 0, none⟩ (.int .i64 C.2.2)) B v2 (L ++ M) := ownSame hB3 fun k hk => kx k (hvE k hk)
  have hO4 : POwn (w3.setCell ⟨w.heap.size + 1, 0, none⟩ (.int .i64 C.2.2)) w2.heap.size pv C.1 := ownSame hO3 fun k hk => kx k (by have := (ownLt hO3 hk).1; omega)
  have hX4 := (World.cell?_of_block (a := ⟨w.heap.size, 0, none⟩) (kx w.heap.size (by omega))).trans k3
  have hE4 := World.cell?_setCell_same w3 ⟨w.heap.size + 1, 0, none⟩ (.int .i64 C.2.2) e30
  have fE4 : (w3.setCell ⟨w.heap.size + 1, 0, none⟩ (.int .i64 C.2.2)).frozen? ⟨w.heap.size + 1, 0, none⟩ = false := by rw [World.frozen?_setCell]; exact e3f
  have hz4 : (w3.setCell ⟨w.heap.size + 1, 0, none⟩ (.int .i64 C.2.2)).heap.size = w3.heap.size := by simp [World.setCell]
  have K4 : Kx R v.ownBlock w (w3.setCell ⟨w.heap.size + 1, 0, none⟩ (.int .i64 C.2.2)) := ⟨hK3.os.trans (hK2.os.trans b1.os), hK3.tape.trans (hK2.tape.trans b1.tape), hK3.output.trans (hK2.output.trans b1.output), by omega, fun k hk h1 h2 => (kx k (by omega)).trans ((hK3.block k (by omega) h1 (by simp)).trans ((hK2.block k (by omega) h1 h2).trans (b1.block k hk)))⟩
  clear k3 hE3 e30 e3f
  generalize w3.setCell ⟨w.heap.size + 1, 0, none⟩ (.int .i64 C.2.2) = w4 at *
  have hpk := pack_any hF4 hB4 hlD
  go_upto_region 7 with (go_at_call 31; refine hpk.mono ?_; rintro _ w5 ⟨rfl, v5, hF5, hB5, hK5, hv5⟩; have hE5 := (World.cell?_of_block (a := ⟨w.heap.size + 1, 0, none⟩) (hK5.block (w.heap.size + 1) (by omega) (by omega) (by simp))).trans hE4; have fE5 := (World.frozen?_of_block (a := ⟨w.heap.size + 1, 0, none⟩) (hK5.block (w.heap.size + 1) (by omega) (by omega) (by simp))).trans fE4; have hX5 := (World.cell?_of_block (a := ⟨w.heap.size, 0, none⟩) (hK5.block w.heap.size (by omega) (by omega) (by simp))).trans hX4)
  have hz5 := hK5.size
  have kx5 : ∀ k, k ≠ w.heap.size + 1 → (w5.setCell ⟨w.heap.size + 1, 0, none⟩ (.int .i64 C.2.2)).heap[k]? = w5.heap[k]? := fun k hk => Below.heap_setCell _ _ _ _ hk
  have hv5E : ∀ k, v5.ownBlock = some k → k ≠ w.heap.size + 1 := fun k hk e => by
    rcases hv5 k hk with h1 | h1
    · exact hvE k h1 e
    · omega
  have fW := hF5.kx (w' := w5.setCell ⟨w.heap.size + 1, 0, none⟩ (.int .i64 C.2.2)) (by simp [World.setCell]) (kx5 R (by omega)) (fun k hk => kx5 k (hv5E k hk))
  have bW : Buf (w5.setCell ⟨w.heap.size + 1, 0, none⟩ (.int .i64 C.2.2)) B v5 _ := ownSame hB5 fun k hk => kx5 k (hv5E k hk)
  have oW : POwn (w5.setCell ⟨w.heap.size + 1, 0, none⟩ (.int .i64 C.2.2)) w2.heap.size pv C.1 := ownSame hO4 fun k hk => by
    have h1 := ownLt hO4 hk
    exact (kx5 k (by omega)).trans (hK5.block k h1.2 (by omega) (by simp))
  have xE := World.cell?_setCell_same w5 ⟨w.heap.size + 1, 0, none⟩ (.int .i64 C.2.2) hE5
  have xX := (World.cell?_setCell_other w5 ⟨w.heap.size + 1, 0, none⟩ ⟨w.heap.size, 0, none⟩ (.int .i64 C.2.2) (by simp)).trans hX5
  have zW : (w5.setCell ⟨w.heap.size + 1, 0, none⟩ (.int .i64 C.2.2)).heap.size = w5.heap.size := by simp [World.setCell]
  have KW : Kx R v.ownBlock w (w5.setCell ⟨w.heap.size + 1, 0, none⟩ (.int .i64 C.2.2)) := ⟨hK5.os.trans K4.os, hK5.tape.trans K4.tape, hK5.output.trans K4.output, by omega, fun k hk h1 h2 => (kx5 k (by omega)).trans ((hK5.block k (by omega) h1 (by simp)).trans (K4.block k hk h1 h2))⟩
  have hvv : ∀ k, v5.ownBlock = some k → v.ownBlock = some k ∨ w.heap.size ≤ k := fun k hk => by
    rcases hv5 k hk with h1 | h1
    · rcases hv2 k h1 with h2 | h2
      · exact .inl h2
      · exact .inr (by omega)
    · exact .inr (by omega)
  have hpv : ∀ k, pv.ownBlock = some k → v5.ownBlock ≠ some k := fun k hk e => by
    have h0 := ownLt hO4 hk
    rcases hv5 k e with h1 | h1
    · have := hvl2 k h1; omega
    · omega
  refine wp_onlyN ?_
  go_region_with fail
  all_goals
    have fV := fW.below (w' := (w5.setCell ⟨w.heap.size + 1, 0, none⟩ (.int .i64 C.2.2)).drew) (Below.refl _ _).drew
    have bV := bW.below (w' := (w5.setCell ⟨w.heap.size + 1, 0, none⟩ (.int .i64 C.2.2)).drew) (Below.refl _ _).drew
    have oV : POwn (w5.setCell ⟨w.heap.size + 1, 0, none⟩ (.int .i64 C.2.2)).drew _ _ _ := ownSame oW fun _ _ => rfl
    have yE : (w5.setCell ⟨w.heap.size + 1, 0, none⟩ (.int .i64 C.2.2)).drew.cell? ⟨w.heap.size + 1, 0, none⟩ = some (.int .i64 C.2.2) := xE
    have yX : (w5.setCell ⟨w.heap.size + 1, 0, none⟩ (.int .i64 C.2.2)).drew.cell? ⟨w.heap.size, 0, none⟩ = some (.pointer (some ⟨R, 0, none⟩)) := xX
    have kV : Kx R v.ownBlock w (w5.setCell ⟨w.heap.size + 1, 0, none⟩ (.int .i64 C.2.2)).drew := KW.trans (Kx.of (Below.refl _ _).drew)
    have zV : (w5.setCell ⟨w.heap.size + 1, 0, none⟩ (.int .i64 C.2.2)).drew.heap.size = w5.heap.size := zW
    generalize (w5.setCell ⟨w.heap.size + 1, 0, none⟩ (.int .i64 C.2.2)).drew = V at *
    unfold OnlyN
    go_wp2_with fail
    refine leaves_cons (f := 27) (args := #[.pointer (some ⟨w.heap.size + 1, 0, none⟩), .pointer (some ⟨w.heap.size, 0, none⟩)]) (by simp) (by simp [go_sem]) ?_
    by_cases he : C.2.2 = 0
    · have hL0 : LL = (L ++ M).drop C.2.1 := Eq.trans hLL (if_pos he)
      rw [hL0]
      refine (FeedD_ok fV ⟨w.heap.size + 1, 0, none⟩ ⟨w.heap.size, 0, none⟩ _ (by rw [yE, he]) yX (by show w.heap.size + 1 ≠ R; omega)).mono ?_
      rintro _ u' w6 ⟨rfl, rfl, rfl⟩
      have yR := (World.cell?_setCell_other V ⟨R, 3, none⟩ ⟨w.heap.size + 1, 0, none⟩ (.int .i64 0) (fun e => by injection e with e1; omega)).trans yE
      have fR := fV.err 0
      have nR : v5.ownBlock ≠ some R := fV.ne
      rw [Nat.zero_add] at fR bV
      refine ⟨.tuple #[pv, .int .i64 C.2.2], ?_, pv, v5, rfl, own_mono (ownSame oV fun k hk => Below.heap_setCell _ _ _ _ (by have := (ownLt oV hk).1; show k ≠ R; omega)) (by omega), by rw [he]; exact fR, ownSame bV fun k hk => Below.heap_setCell _ _ _ _ (fun e => nR (by rw [hk, e])), kV.trans (Kx.set R 3 _ V _), hvv, hpv⟩
      simp [results, Try.results12, go_sem, yR]
    · have hL0 : LL = [] := Eq.trans hLL (if_neg he)
      rw [hL0]
      refine (FeedD_err fV ⟨w.heap.size + 1, 0, none⟩ ⟨w.heap.size, 0, none⟩ _ yE yX (by show w.heap.size + 1 ≠ R; omega) (by show w.heap.size ≠ R; omega) he).mono ?_
      rintro _ u' w6 ⟨rfl, rfl, q1, q2⟩
      have yR := (World.cell?_of_block (a := ⟨w.heap.size + 1, 0, none⟩) (q2.block (w.heap.size + 1) (by omega) (by omega) (by simp))).trans yE
      refine ⟨.tuple #[pv, .int .i64 C.2.2], ?_, pv, .slice none 0 0, rfl, own_mono (ownSame oV fun k hk => q2.block k (ownLt oV hk).2 (by have := (ownLt oV hk).1; omega) (by simp)) (by omega), q1, Buf.nil _ _, kV.trans q2.any, (fun k hk => by cases hk), (fun k hk => by simp [Value.ownBlock])⟩
      simp [results, Try.results12, go_sem, yR]
end Go.Proofs.Ytnicdehbedcdpaa

/- CuN. -/
import Derived.Test.YtgklippjoikadaaDoorK14
import Derived.Defers
import Derived.Recover
namespace Go.Proofs.YtgklippjoikadaaDoor
open Go.ChangeShapes Go.WideShapes Go.ChangeAt Go.RowKit

/-- The number of a length. -/
def gdn (hi : Bool) (st en : Nat) (f : Nat → Int) (t : Tk) : Int := getW hi st (en + t.siz.toNat) f (en + t.a.o) t.a.p
def gdE (hi : Bool) (len st en : Nat) (f : Nat → Int) (t : Tk) : Int := if lenG t then (if clE len en t.siz = 0 then clE len (en + t.siz.toNat) (gdn hi st en f t) else clE len en t.siz) else 1
def gdN (hi : Bool) (len st en : Nat) (f : Nat → Int) (t : Tk) : Nat := if gdE hi len st en f t = 0 then en + t.siz.toNat + (gdn hi st en f t).toNat else en
def gdT (hi : Bool) (len st en : Nat) (f : Nat → Int) (t : Tk) : ByteArray := if gdE hi len st en f t = 0 then textF f (en + t.siz.toNat) (gdn hi st en f t).toNat else ByteArray.empty
theorem getW_bd (hi : Bool) (st en : Nat) (f : Nat → Int) (a p : Int) (hp : p = 5 ∨ p = 6 ∨ p = 7) : 0 ≤ getW hi st en f a p ∧ getW hi st en f a p < 4294967296 := by
  unfold getW
  split
  · unfold wrd
    obtain ⟨h1, h2⟩ := size_cases p hp
    rw [h2]
    unfold wordF
    rw [if_neg (by omega)]
    rcases h1 with h1 | h1 | h1 <;> rw [h1] <;> unfold pw <;> simp <;> omega
  · omega
theorem getD_ok (E N C : Nat) (u : FrameMode) (w : World) (h : w.cell? ⟨E, 0, none⟩ = some (.int .i64 0)) :
    CallsD Tryd.prog 48 #[.pointer (some ⟨E, 0, none⟩), .pointer (some ⟨N, 0, none⟩), .pointer (some ⟨C, 0, none⟩)] u w fun e u' w' => u' = u ∧ (e = .returned (.tuple #[]) ∧ w' = w) := by
  go_enter_d Tryd.func48, Tryd.ntmps48
  go_wp2_with fail
  go_end0
  exact ⟨rfl, rfl⟩
theorem getD_err (E N C c : Nat) (er : Int) (en : Nat) (u : FrameMode) (w : World) (h : w.cell? ⟨E, 0, none⟩ = some (.int .i64 er)) (her : er ≠ 0) (hN : w.cell? ⟨N, 0, none⟩ = some (.int .i64 en)) (hC : w.cell? ⟨C, 0, none⟩ = some (.pointer (some ⟨c, 0, none⟩))) {v : Value} (hc : w.cell? ⟨c, 2, none⟩ = some v) (hf : w.frozen? ⟨c, 2, none⟩ = false) :
    CallsD Tryd.prog 48 #[.pointer (some ⟨E, 0, none⟩), .pointer (some ⟨N, 0, none⟩), .pointer (some ⟨C, 0, none⟩)] u w fun e u' w' => u' = u ∧ (e = .returned (.tuple #[]) ∧ w' = w.setCell ⟨c, 2, none⟩ (.int .i64 en)) := by
  have b2 : (er != 0) = true := by simpa using her
  clear her
  go_enter_d Tryd.func48, Tryd.ntmps48
  go_wp2_with fail
  go_end0
  exact ⟨rfl, rfl⟩
theorem al_heap (w : World) (o : Obj) (k : Nat) (h : k < w.heap.size) : (w.alloc o).heap[k]? = w.heap[k]? := by show (w.heap.push o)[k]? = _; rw [Array.getElem?_push, if_neg (by omega)]
/-- What GetData's boxes hold: the cursor's, the error's, the end's. -/
structure Gx (W : World) (B N c g en : Nat) (er : Int) : Prop where
  kc : W.cell? ⟨B, 0, none⟩ = some (.pointer (some ⟨c, 0, none⟩))
  ke : W.cell? ⟨B + 1 + 1, 0, none⟩ = some (.int .i64 er)
  kf : W.frozen? ⟨B + 1 + 1, 0, none⟩ = false
  kn : W.cell? ⟨N, 0, none⟩ = some (.int .i64 en)
  l1 : B + 1 + 1 < N
  l2 : N < W.heap.size
  a1 : c < B
  a2 : g < B
theorem Gx.cb {W W' : World} {B N c g en : Nat} {er : Int} (h : Gx W B N c g en er) (hb : Cb c 0 g W W') : Gx W' B N c g en er := by
  have l1 := h.l1
  have l2 := h.l2
  have a1 := h.a1
  have a2 := h.a2
  exact ⟨(hb.at (by omega) (by omega) (by omega)).trans h.kc, (hb.at (by omega) (by omega) (by omega)).trans h.ke, (World.frozen?_of_block (w := W) (hb.block _ (by show B + 1 + 1 < _; omega) (by show B + 1 + 1 ≠ _; omega) (by show B + 1 + 1 ≠ _; omega))).trans h.kf, (hb.at (by omega) (by omega) (by omega)).trans h.kn, l1, Nat.lt_of_lt_of_le l2 hb.size, a1, a2⟩
theorem Gx.err {W : World} {B N c g en : Nat} {er : Int} (h : Gx W B N c g en er) (er' : Int) : Gx (W.setCell ⟨B + 1 + 1, 0, none⟩ (.int .i64 er')) B N c g en er' := by
  have l1 := h.l1
  exact ⟨(World.cell?_setCell_far _ _ _ _ (by show B + 1 + 1 ≠ B; omega)).trans h.kc, World.cell?_setCell_same _ _ _ h.ke, (World.frozen?_setCell _ _ _ _).trans h.kf, (World.cell?_setCell_far _ _ _ _ (by show B + 1 + 1 ≠ N; omega)).trans h.kn, l1, by simpa [World.setCell] using h.l2, h.a1, h.a2⟩
theorem ch_all {f : Nat → Int} (st e0 m : Nat) (h : st ≤ e0) : chE st (e0 + m) e0 m = 0 ∧ chT st (e0 + m) f e0 m = textF f e0 m := by
  have ce : chE st (e0 + m) e0 m = 0 := by unfold chE; rw [if_neg (Int.not_lt.2 (Int.natCast_nonneg m)), inC_yes (by omega)]; rfl
  refine ⟨ce, ?_⟩
  unfold chT
  rw [ce, if_pos rfl]
  simp
theorem resG (tmps : Array Value) (s : ByteArray) (b : Nat) (er : Int) (h4 : tmps[4]?.getD undef = .string s) (h5 : tmps[5]?.getD undef = .pointer (some ⟨b, 0, none⟩)) (W : World) (hc : W.cell? ⟨b, 0, none⟩ = some (.int .i64 er)) : (results Tryd.f21 tmps).run Tryd.prog W = .ok (.tuple #[.string s, .int .i64 er]) W := by
  simp [results, Tryd.results21, go_sem, h4, h5, hc]
theorem leave_err {E N C c en : Nat} {er : Int} {s : ByteArray} {tmps : Array Value} {W : World} {R : Ending → World → Prop} (h4 : tmps[4]?.getD undef = .string s) (h5 : tmps[5]?.getD undef = .pointer (some ⟨E, 0, none⟩)) (hE : W.cell? ⟨E, 0, none⟩ = some (.int .i64 er)) (her : er ≠ 0) (hN : W.cell? ⟨N, 0, none⟩ = some (.int .i64 en)) (hC : W.cell? ⟨C, 0, none⟩ = some (.pointer (some ⟨c, 0, none⟩))) {v : Value} (hc : W.cell? ⟨c, 2, none⟩ = some v) (hf : W.frozen? ⟨c, 2, none⟩ = false) (hn : E ≠ c)
    (hR : R (.returned (.tuple #[.string s, .int .i64 er])) (W.setCell ⟨c, 2, none⟩ (.int .i64 en))) :
    Leaves Tryd.prog Tryd.f21 tmps R [{ target := Target.fn (Fn.func 48) #[.pointer (some ⟨E, 0, none⟩), .pointer (some ⟨N, 0, none⟩), .pointer (some ⟨C, 0, none⟩)], args := #[] }] .returning W := by
  refine leaves_cons (f := 48) (args := #[.pointer (some ⟨E, 0, none⟩), .pointer (some ⟨N, 0, none⟩), .pointer (some ⟨C, 0, none⟩)]) (by simp) (by simp [go_sem]) ?_
  refine (getD_err E N C c er en _ W hE her hN hC hc hf).mono ?_
  rintro e u' w2 ⟨rfl, rfl, rfl⟩
  exact ⟨_, resG _ s E er h4 h5 _ ((World.cell?_setCell_other _ _ _ _ (fun e => hn (congrArg Addr.block e).symm)).trans hE), hR⟩
theorem leave_ok {E N C : Nat} {s : ByteArray} {tmps : Array Value} {W : World} {R : Ending → World → Prop} (h4 : tmps[4]?.getD undef = .string s) (h5 : tmps[5]?.getD undef = .pointer (some ⟨E, 0, none⟩)) (hE : W.cell? ⟨E, 0, none⟩ = some (.int .i64 0)) (hR : R (.returned (.tuple #[.string s, .int .i64 0])) W) :
    Leaves Tryd.prog Tryd.f21 tmps R [{ target := Target.fn (Fn.func 48) #[.pointer (some ⟨E, 0, none⟩), .pointer (some ⟨N, 0, none⟩), .pointer (some ⟨C, 0, none⟩)], args := #[] }] .returning W := by
  refine leaves_cons (f := 48) (args := #[.pointer (some ⟨E, 0, none⟩), .pointer (some ⟨N, 0, none⟩), .pointer (some ⟨C, 0, none⟩)]) (by simp) (by simp [go_sem]) ?_
  refine (getD_ok E N C _ W hE).mono ?_
  rintro e u' w2 ⟨rfl, rfl, rfl⟩
  exact ⟨_, resG _ s E 0 h4 h5 _ hE, hR⟩
set_option maxRecDepth 20000 in
set_option maxHeartbeats 1000000 in
theorem GetData_any {w : World} {c g len cap st en : Nat} {hi : Bool} {f : Nat → Int} (h : Cs w c 0 g len cap st en hi f) (kt : KT w) (zc : 0 < c) (zg : 0 < g) (t : Tk) (pc : Option Addr) (cc : Nat) :
    Calls Tryd.prog 21 #[.pointer (some ⟨c, 0, none⟩), tkV t pc cc] w fun e w' => e = .returned (.tuple #[.string (gdT hi len st en f t), .int .i64 (gdE hi len st en f t)]) ∧ Cs w' c 0 g len cap st (gdN hi len st en f t) hi f ∧ Cb c 0 g w w' := by
  have G := fun W (hW : Below w.heap.size w W) => isLen_any t pc cc W (kt.below kt.pos hW)
  have LD : (Instr.loadAt 48 (.pointer (some ⟨w.heap.size + 1, 0, none⟩))).run Tryd.prog (((w.alloc (.cells #[.pointer (some ⟨c, 0, none⟩)] 26)).alloc (tkO t pc cc)).alloc (.cells #[.int .i64 0] 31)) = .ok (tkV t pc cc) (((w.alloc (.cells #[.pointer (some ⟨c, 0, none⟩)] 26)).alloc (tkO t pc cc)).alloc (.cells #[.int .i64 0] 31)) := by
    have := two_1 (w.alloc (.cells #[.pointer (some ⟨c, 0, none⟩)] 26)) (tkO t pc cc) (.cells #[.int .i64 0] 31)
    rw [World.size_alloc] at this
    exact (tk_of this).load
  have F : Hid (∀ w1, Below (((w.alloc (.cells #[.pointer (some ⟨c, 0, none⟩)] 26)).alloc (tkO t pc cc)).alloc (.cells #[.int .i64 0] 31)).heap.size (((w.alloc (.cells #[.pointer (some ⟨c, 0, none⟩)] 26)).alloc (tkO t pc cc)).alloc (.cells #[.int .i64 0] 31)) w1 → w1.cell? ⟨w.heap.size, 0, none⟩ = some (.pointer (some ⟨c, 0, none⟩)) ∧ w1.cell? ⟨w.heap.size + 1, 4, none⟩ = some (.int .i64 t.siz) ∧ w1.cell? ⟨w.heap.size + 1, 16, none⟩ = some (.int .i64 t.a.p) ∧ w1.cell? ⟨w.heap.size + 1, 17, none⟩ = some (.int .i64 t.a.o) ∧ w1.cell? ⟨w.heap.size + 1 + 1, 0, none⟩ = some (.int .i64 0) ∧ w1.frozen? ⟨w.heap.size + 1 + 1, 0, none⟩ = false ∧ w.heap.size < w1.heap.size ∧ w.heap.size + 1 < w1.heap.size ∧ w.heap.size + 1 + 1 < w1.heap.size) := fun w1 hb => by
    have hz : (((w.alloc (.cells #[.pointer (some ⟨c, 0, none⟩)] 26)).alloc (tkO t pc cc)).alloc (.cells #[.int .i64 0] 31)).heap.size = w.heap.size + 3 := by simp
    have hs := hb.size
    rw [hz] at hs
    have cl : ∀ b o, b < w.heap.size + 3 → w1.cell? ⟨b, o, none⟩ = (((w.alloc (.cells #[.pointer (some ⟨c, 0, none⟩)] 26)).alloc (tkO t pc cc)).alloc (.cells #[.int .i64 0] 31)).cell? ⟨b, o, none⟩ := fun b o h => hb.cell (p := ⟨b, o, none⟩) (by rw [hz]; exact h)
    have tw := two_1 (w.alloc (.cells #[.pointer (some ⟨c, 0, none⟩)] 26)) (tkO t pc cc) (.cells #[.int .i64 0] 31)
    rw [World.size_alloc] at tw
    have tk := tk_of tw
    have h0 : (((w.alloc (.cells #[.pointer (some ⟨c, 0, none⟩)] 26)).alloc (tkO t pc cc)).alloc (.cells #[.int .i64 0] 31)).heap[w.heap.size]? = some (.cells #[.pointer (some ⟨c, 0, none⟩)] 26) := by
      rw [al_heap _ _ _ (by rw [World.size_alloc, World.size_alloc]; omega), al_heap _ _ _ (by rw [World.size_alloc]; omega)]
      exact heap_al _ _
    have h2 : (((w.alloc (.cells #[.pointer (some ⟨c, 0, none⟩)] 26)).alloc (tkO t pc cc)).alloc (.cells #[.int .i64 0] 31)).heap[w.heap.size + 1 + 1]? = some (.cells #[.int .i64 0] 31) := by
      have := heap_al ((w.alloc (.cells #[.pointer (some ⟨c, 0, none⟩)] 26)).alloc (tkO t pc cc)) (.cells #[.int .i64 0] 31)
      rw [World.size_alloc, World.size_alloc] at this
      exact this
    refine ⟨(cl _ _ (by omega)).trans (cell_at h0 0), (cl _ _ (by omega)).trans tk.c4, (cl _ _ (by omega)).trans tk.c16, (cl _ _ (by omega)).trans tk.c17, (cl _ _ (by omega)).trans (cell_at h2 0), ?_, by omega, by omega, by omega⟩
    rw [hb.frozen (p := ⟨w.heap.size + 1 + 1, 0, none⟩) (by rw [hz]; show w.heap.size + 1 + 1 < _; omega)]
    simp only [World.frozen?, h2]
    rfl
  have bel3 : ∀ a b d, Below w.heap.size w (((w.alloc a).alloc b).alloc d) := fun a b d => belT (bel2 _ _ _) (bel1 _ _)
  have H : Hid (Cs w c 0 g len cap st en hi f) := h
  cases hg : lenG t with
  | false =>
    have e1 : gdE hi len st en f t = 1 := by unfold gdE; rw [hg]; rfl
    have e2 : gdN hi len st en f t = en := by unfold gdN; rw [e1]; rfl
    have e3 : gdT hi len st en f t = ByteArray.empty := by unfold gdT; rw [e1]; rfl
    rw [e1, e2, e3]
    clear e1 e2 e3
    rw [hg] at G
    clear h
    go_enter_defers Tryd.func21, Tryd.ntmps21
    go_wp2_with (first | (go_at_call 44; refine (G _ (bel3 _ _ _)).mono ?_; rintro e w1 ⟨rfl, hb1⟩; obtain ⟨hc1, hf1⟩ := bcell hb1) | (guard_target =~ wpList _ _ _ (Oper.mk _ (Op.load 48 _) _ _ _ _ :: _) _ _; go_must (refine wpList_ld 48 _ rfl rfl _ _ rfl LD ?_); simp only [pts]))
    obtain ⟨_, _, _, _, k0, _⟩ := F.out w1 hb1
    have z := H.out.lt
    have zr := H.out.row.lt
    have nc : w.heap.size + 1 + 1 ≠ c := by omega
    have ng : w.heap.size + 1 + 1 ≠ g := by omega
    have B := belT (bel3 _ _ _) hb1
    exact ⟨_, resG _ _ (w.heap.size + 1 + 1) 1 rfl rfl _ (World.cell?_setCell_same _ _ _ k0), rfl, (H.out.below B).set nc ng, (Cb.of_below B z).set (by omega) nc ng⟩
  | true =>
    rw [hg] at G
    obtain ⟨hsz, hsp⟩ := goods_ok (len_ok hg)
    have gA := goodB_ok (hsp (t.a.p, t.a.o) (by simp [lenS]))
    have RD := fun W (hW : Below w.heap.size w W) b (hb : w.heap.size ≤ b) (hr : SpRow W b (lenS t)) => read_any (h.below hW) (kt.below kt.pos hW) zc zg t.siz (lenS t) b 1 hr (fun s hs => goodB_off (hsp s hs) hsz.2) (by simp [lenS]) (by have := h.lt; omega) (by have := h.row.lt; omega) hsz.1 hsz.2
    have hl : (lenS t).length = 1 := rfl
    rw [hl] at RD
    have nb := getW_bd hi st (en + t.siz.toNat) f (en + t.a.o) t.a.p gA.1
    have to := h.to
    have TO : Hid (∀ W, Below w.heap.size w W → W.cell? ⟨c, 2, none⟩ = some (.int .i64 en)) := fun W hW => (h.below hW).to
    have z := h.lt
    have zr := h.row.lt
    clear h hsp hl
    have GX : Hid (∀ w1 : World, w.heap.size + 1 + 1 < w1.heap.size → w1.cell? ⟨w.heap.size, 0, none⟩ = some (.pointer (some ⟨c, 0, none⟩)) → w1.cell? ⟨w.heap.size + 1 + 1, 0, none⟩ = some (.int .i64 0) → w1.frozen? ⟨w.heap.size + 1 + 1, 0, none⟩ = false → ∀ w2 : World, (∃ o2 : Obj, Cb c 0 g ((w1.alloc (.cells #[.int .i64 en] 3)).alloc o2) w2) → w2.cell? ⟨w.heap.size, 0, none⟩ = some (.pointer (some ⟨c, 0, none⟩)) ∧ w2.cell? ⟨w.heap.size + 1 + 1, 0, none⟩ = some (.int .i64 0) ∧ w2.frozen? ⟨w.heap.size + 1 + 1, 0, none⟩ = false ∧ w2.cell? ⟨w1.heap.size, 0, none⟩ = some (.int .i64 en) ∧ w1.heap.size < w2.heap.size) := fun w1 l3 q1 q2 q3 w2 ⟨o2, hb⟩ => by
      have s2 : ((w1.alloc (.cells #[.int .i64 en] 3)).alloc o2).heap.size = w1.heap.size + 2 := by rw [World.size_alloc, World.size_alloc]
      have bb := bel2 w1 (.cells #[.int .i64 en] 3) o2
      have hs := hb.size
      rw [s2] at hs
      have h1 : ((w1.alloc (.cells #[.int .i64 en] 3)).alloc o2).heap[w1.heap.size]? = some (.cells #[.int .i64 en] 3) := two_1 _ _ _
      refine ⟨(hb.at (by omega) (by omega) (by omega)).trans ((bb.cell (p := ⟨w.heap.size, 0, none⟩) (by show w.heap.size < _; omega)).trans q1), (hb.at (by omega) (by omega) (by omega)).trans ((bb.cell (p := ⟨w.heap.size + 1 + 1, 0, none⟩) (by show w.heap.size + 1 + 1 < _; omega)).trans q2), ?_, (hb.at (by omega) (by omega) (by omega)).trans (cell_at h1 0), by omega⟩
      rw [World.frozen?_of_block (w := (w1.alloc (.cells #[.int .i64 en] 3)).alloc o2) (hb.block _ (by show w.heap.size + 1 + 1 < _; omega) (by show w.heap.size + 1 + 1 ≠ _; omega) (by show w.heap.size + 1 + 1 ≠ _; omega)), bb.frozen (p := ⟨w.heap.size + 1 + 1, 0, none⟩) (by show w.heap.size + 1 + 1 < _; omega)]
      exact q3
    have nE : w.heap.size + 1 + 1 ≠ c := by omega
    have nG : w.heap.size + 1 + 1 ≠ g := by omega
    rcases clE_cases len en t.siz with ⟨e, hq⟩ | ⟨e, hq⟩ | ⟨e, hq0, hq⟩
    · omega
    · have e1 : gdE hi len st en f t = 11 := by unfold gdE; rw [hg, e]; rfl
      have e2 : gdN hi len st en f t = en := by unfold gdN; rw [e1]; rfl
      have e3 : gdT hi len st en f t = ByteArray.empty := by unfold gdT; rw [e1]; rfl
      have e4 : clN len en t.siz = en := by unfold clN; rw [e]; rfl
      rw [e1, e2, e3]
      rw [e, e4] at RD
      clear e1 e2 e3 e4 e
      go_enter_defers Tryd.func21, Tryd.ntmps21
      go_wp2_with (first
        | (go_at_call 44; refine (G _ (bel3 _ _ _)).mono ?_; rintro e w1 ⟨rfl, hb1⟩; obtain ⟨k1, k2, k3, k4, k5, k6, l1, l2, l3⟩ := F.out w1 hb1; have to1 := TO.out _ (belT (bel3 _ _ _) hb1); replace hb1 : Hid _ := belT (bel3 _ _ _) hb1)
        | (guard_target =~ wpList _ _ _ (Oper.mk _ (Op.load 48 _) _ _ _ _ :: _) _ _; go_must (refine wpList_ld 48 _ rfl rfl _ _ rfl LD ?_); simp only [pts])
        | (go_at_call 46; refine (RD _ (belT hb1.out (bel2 _ _ _)) (w1.heap.size + 1) (by omega) (sp_new1' (by simp))).mono ?_; rintro e w2 ⟨R0, R1, R2⟩; obtain rfl := R0.no (by decide); obtain ⟨m1, m2, m3, m4, m5⟩ := GX.out w1 l3 k1 k5 k6 w2 ⟨_, R2⟩))
      have e5 := World.cell?_setCell_same w2 ⟨w.heap.size + 1 + 1, 0, none⟩ (.int .i64 11) m2
      have f5 : (w2.setCell ⟨w.heap.size + 1 + 1, 0, none⟩ (.int .i64 11)).frozen? ⟨w.heap.size + 1 + 1, 0, none⟩ = false := (World.frozen?_setCell _ _ _ _).trans m3
      go_region
      all_goals
        go_wp2_with fail
        have nE : w.heap.size + 1 + 1 ≠ c := by omega
        have nG : w.heap.size + 1 + 1 ≠ g := by omega
        have C1 := (Cb.of_below (belT hb1.out (bel2 _ _ _)) z).trans R2
        have D1 := ((R1.set (i := 0) (v := .int .i64 11) nE nG).set (i := 0) (v := .int .i64 11) nE nG).below (Below.refl _ _).drew
        have D2 := ((C1.set (i := 0) (v := .int .i64 11) (by omega) nE nG).set (i := 0) (v := .int .i64 11) (by omega) nE nG).trans (Cb.of_below (Below.refl _ _).drew D1.lt)
        have far : ∀ b, b ≠ w.heap.size + 1 + 1 → ((w2.setCell ⟨w.heap.size + 1 + 1, 0, none⟩ (.int .i64 11)).setCell ⟨w.heap.size + 1 + 1, 0, none⟩ (.int .i64 11)).drew.cell? ⟨b, 0, none⟩ = w2.cell? ⟨b, 0, none⟩ := fun b hb => by
          show ((w2.setCell ⟨w.heap.size + 1 + 1, 0, none⟩ (.int .i64 11)).setCell ⟨w.heap.size + 1 + 1, 0, none⟩ (.int .i64 11)).cell? ⟨b, 0, none⟩ = _
          rw [World.cell?_setCell_far _ _ _ _ (Ne.symm hb), World.cell?_setCell_far _ _ _ _ (Ne.symm hb)]
        obtain ⟨M1, M2⟩ := D1.moved en D1.h1 D1.h2
        exact leave_err rfl rfl (World.cell?_setCell_same _ _ _ e5) (by decide) ((far _ (by omega)).trans m4) ((far _ (by omega)).trans m1) D1.to D1.frz nE ⟨rfl, M1, D2.trans M2⟩
    · have e4 : clN len en t.siz = en + t.siz.toNat := by unfold clN; rw [e]; rfl
      have e5 : gdE hi len st en f t = clE len (en + t.siz.toNat) (gdn hi st en f t) := by unfold gdE; rw [hg, e]; rfl
      have e6 : rdV hi st (en + t.siz.toNat) f en (lenS t) = [gdn hi st en f t] := rfl
      rw [e4, e, e6] at RD
      clear e4 e6 e
      unfold gdN gdT
      rw [e5]
      have nb' : 0 ≤ gdn hi st en f t ∧ gdn hi st en f t < 4294967296 := nb
      clear nb e5 hg
      generalize gdn hi st en f t = n at RD nb' ⊢
      obtain ⟨m, rfl⟩ : ∃ m : Nat, n = m := ⟨n.toNat, by omega⟩
      obtain ⟨e0, he0⟩ : ∃ e0, en + t.siz.toNat = e0 := ⟨_, rfl⟩
      rw [he0] at RD ⊢
      have hm : ((m : Int)).toNat = m := by omega
      rw [hm]
      have CL := fun W (hW : Cs W c 0 g len cap st e0 hi f) => Claim_any hW m
      have wm : IntKind.i64.wrap (m : Int) = m := by rw [IntKind.wrap_i64]; omega
      have wm2 : wrap64 (m : Int) = m := by unfold wrap64; omega
      rcases clE_cases len e0 m with ⟨e, hq⟩ | ⟨e, hq⟩ | ⟨e, hq0, hq⟩
      · exact absurd hq (Int.not_lt.2 (Int.natCast_nonneg m))
      · have e1 : clP len e0 m = 0 := by unfold clP; rw [e]; rfl
        have e2 : clN len e0 m = e0 := by unfold clN; rw [e]; rfl
        rw [e, e1, e2] at CL
        rw [e, if_neg (by decide), if_neg (by decide)]
        clear e e1 e2 hm
        go_enter_defers Tryd.func21, Tryd.ntmps21
        go_wp2_with (first
          | (go_at_call 44; refine (G _ (bel3 _ _ _)).mono ?_; rintro e w1 ⟨rfl, hb1⟩; obtain ⟨k1, k2, k3, k4, k5, k6, l1, l2, l3⟩ := F.out w1 hb1; have to1 := TO.out _ (belT (bel3 _ _ _) hb1); replace hb1 : Hid _ := belT (bel3 _ _ _) hb1)
          | (guard_target =~ wpList _ _ _ (Oper.mk _ (Op.load 48 _) _ _ _ _ :: _) _ _; go_must (refine wpList_ld 48 _ rfl rfl _ _ rfl LD ?_); simp only [pts])
          | (go_at_call 46; refine (RD _ (belT hb1.out (bel2 _ _ _)) (w1.heap.size + 1) (by omega) (sp_new1' (by simp))).mono ?_; rintro e w2 ⟨R0, R1, R2⟩; obtain ⟨vb, vc, rfl, A⟩ := R0.yes rfl; obtain ⟨m1, m2, m3, m4, m5⟩ := GX.out w1 l3 k1 k5 k6 w2 ⟨_, R2⟩; have a0 : w2.cell? ⟨vb, 0, none⟩ = some (.int .u64 m) := A.c 0 _ rfl; have nv : ¬ w.heap.size + 1 + 1 = vb := (by have := A.new; simp at this; omega); have X : Hid (Gx w2 w.heap.size w1.heap.size c g en 0) := ⟨m1, m2, m3, m4, l3, m5, z, zr⟩; have C1 : Hid (Cb c 0 g w w2) := (Cb.of_below (belT hb1.out (bel2 _ _ _)) z).trans R2; replace R1 : Hid _ := R1; clear R2 R0 A)
          | (go_at_call 14; refine (CL _ (R1.out.set nE nG)).mono ?_; rintro e w3 ⟨rfl, Q1, Q2⟩; have Y := (X.out.err 0).cb Q2; have y1 := Y.kc; have y2 := Y.ke; have y3 := Y.kf; replace Y : Hid _ := Y; replace C1 : Hid (Cb c 0 g w w3) := (C1.out.set (by omega) nE nG).trans Q2; replace Q1 : Hid _ := Q1; clear Q2 R1 X))
        have f5 := (Y.out.err 11)
        have e5 := f5.ke
        have e6 := f5.kf
        go_region
        all_goals
          go_wp2_with fail
          have D1 := ((Q1.out.set (i := 0) (v := .int .i64 11) nE nG).set (i := 0) (v := .int .i64 11) nE nG).below (Below.refl _ _).drew
          have D2 := ((C1.out.set (i := 0) (v := .int .i64 11) (by omega) nE nG).set (i := 0) (v := .int .i64 11) (by omega) nE nG).trans (Cb.of_below (Below.refl _ _).drew D1.lt)
          have Z := (f5.err 11)
          obtain ⟨M1, M2⟩ := D1.moved en H.out.h1 H.out.h2
          exact leave_err rfl rfl Z.ke (by decide) Z.kn Z.kc D1.to D1.frz nE ⟨rfl, M1, D2.trans M2⟩
      · have e1 : clP len e0 m = e0 := by unfold clP; rw [e]; rfl
        have e2 : clN len e0 m = e0 + m := by unfold clN; rw [e]; rw [if_pos rfl, hm]
        rw [e, e1, e2] at CL
        rw [e, if_pos rfl, if_pos rfl]
        have hs1 := H.out.h1
        have CH := fun W (hW : Cs W c 0 g len cap st (e0 + m) hi f) => CharsCu_any hW e0 m (Int.le_of_lt (Int.lt_trans nb'.2 (by decide)))
        obtain ⟨ce, ct⟩ := ch_all (f := f) st e0 m (he0 ▸ Nat.le_trans hs1 (Nat.le_add_right _ _))
        rw [ce, ct] at CH
        clear e e1 e2 hm ce ct
        go_enter_defers Tryd.func21, Tryd.ntmps21
        go_wp2_with (first
          | (go_at_call 44; refine (G _ (bel3 _ _ _)).mono ?_; rintro e w1 ⟨rfl, hb1⟩; obtain ⟨k1, k2, k3, k4, k5, k6, l1, l2, l3⟩ := F.out w1 hb1; have to1 := TO.out _ (belT (bel3 _ _ _) hb1); replace hb1 : Hid _ := belT (bel3 _ _ _) hb1)
          | (guard_target =~ wpList _ _ _ (Oper.mk _ (Op.load 48 _) _ _ _ _ :: _) _ _; go_must (refine wpList_ld 48 _ rfl rfl _ _ rfl LD ?_); simp only [pts])
          | (go_at_call 46; refine (RD _ (belT hb1.out (bel2 _ _ _)) (w1.heap.size + 1) (by omega) (sp_new1' (by simp))).mono ?_; rintro e w2 ⟨R0, R1, R2⟩; obtain ⟨vb, vc, rfl, A⟩ := R0.yes rfl; obtain ⟨m1, m2, m3, m4, m5⟩ := GX.out w1 l3 k1 k5 k6 w2 ⟨_, R2⟩; have a0 : w2.cell? ⟨vb, 0, none⟩ = some (.int .u64 m) := A.c 0 _ rfl; have nv : ¬ w.heap.size + 1 + 1 = vb := (by have := A.new; simp at this; omega); have X : Hid (Gx w2 w.heap.size w1.heap.size c g en 0) := ⟨m1, m2, m3, m4, l3, m5, z, zr⟩; have C1 : Hid (Cb c 0 g w w2) := (Cb.of_below (belT hb1.out (bel2 _ _ _)) z).trans R2; replace R1 : Hid _ := R1; clear R2 R0 A)
          | (go_at_call 14; refine (CL _ (R1.out.set nE nG)).mono ?_; rintro e w3 ⟨rfl, Q1, Q2⟩; have Y := (X.out.err 0).cb Q2; have y1 := Y.kc; have y2 := Y.ke; have y3 := Y.kf; replace Y : Hid _ := Y; replace C1 : Hid (Cb c 0 g w w3) := (C1.out.set (by omega) nE nG).trans Q2; replace Q1 : Hid _ := Q1; clear Q2 R1 X)
          | (go_at_call 26; refine (CH _ (Q1.out.set nE nG)).mono ?_; rintro e w4 ⟨rfl, T1⟩; have Z := (Y.out.err 0).cb (Cb.of_below T1 (Q1.out.set (i := 0) (v := .int .i64 0) nE nG).lt); have z2 := Z.ke; have z3 := Z.kf; replace Z : Hid _ := Z))
        have D1 := (((Q1.out.set (i := 0) (v := .int .i64 0) nE nG).below T1).set (i := 0) (v := .int .i64 0) nE nG)
        have D2 := ((C1.out.set (i := 0) (v := .int .i64 0) (Nat.le_add_right_of_le (Nat.le_add_right _ _)) nE nG).trans (Cb.of_below T1 (Q1.out.set (i := 0) (v := .int .i64 0) nE nG).lt)).set (i := 0) (v := .int .i64 0) (Nat.le_add_right_of_le (Nat.le_add_right _ _)) nE nG
        exact leave_ok rfl rfl (Z.out.err 0).ke ⟨rfl, D1, D2⟩
end Go.Proofs.YtgklippjoikadaaDoor

/- A cursor's PutHead, PutDim, PutData. -/
import Derived.Test.YtfhphjgcmbneeaaDoorCuH
namespace Go.Proofs.YtfhphjgcmbneeaaDoor
open Go.ChangeShapes Go.WideShapes Go.ChangeAt Go.RowKit

structure Four where
  a : Int
  b : Int
  c : Int
  d : Int
structure FourOk (v : Four) : Prop where
  a : 0 ≤ v.a ∧ v.a < 18446744073709551616
  b : 0 ≤ v.b ∧ v.b < 18446744073709551616
  c : 0 ≤ v.c ∧ v.c < 18446744073709551616
  d : 0 ≤ v.d ∧ v.d < 18446744073709551616
abbrev fourV (v : Four) : Value := .agg #[.int .u64 v.a, .int .u64 v.b, .int .u64 v.c, .int .u64 v.d]
def hdN (h : Hd) (v : Four) : List Nb := [⟨h.b.p, h.b.o, v.a⟩, ⟨h.t.p, h.t.o, v.b⟩, ⟨h.s.p, h.s.o, v.c⟩, ⟨h.v.p, h.v.o, v.d⟩]
/-- A write that is refused where the spots are none. -/
def pwE (g : Bool) (len en : Nat) (size : Int) (ns : List Nb) : Int := if g then wrE len en size ns else 1
def pwN (g : Bool) (len en : Nat) (size : Int) (ns : List Nb) : Nat := if g then wrN len en size ns else en
def pwF (g : Bool) (hi : Bool) (len st en : Nat) (f : Nat → Int) (size : Int) (ns : List Nb) : Nat → Int := if g then wrF hi len st en f size ns else f
theorem goods_ok {size : Int} {l : List (Int × Int)} (h : goods size l = true) : (1 ≤ size ∧ size ≤ 65535) ∧ ∀ s ∈ l, goodB size s.1 s.2 = true := by
  unfold goods at h
  rw [Bool.and_eq_true] at h
  exact ⟨of_decide_eq_true h.1, fun s hs => List.all_eq_true.1 h.2 s hs⟩
theorem goodB_ok {size p off : Int} (h : goodB size p off = true) : (p = 5 ∨ p = 6 ∨ p = 7) ∧ 0 ≤ off ∧ off ≤ size - sz p := of_decide_eq_true h
theorem goodB_off {size p off : Int} (h : goodB size p off = true) (hs : size ≤ 65535) : 0 ≤ off ∧ off ≤ 65535 := by
  have := goodB_ok h
  have := sz_cases p
  omega
theorem nb_new (w : World) (l : List Nb) (cs : Array Value) (ty : TypeId) (h : ∀ i s, l[i]? = some s → cs[i * 3]? = some (.int .i64 s.p) ∧ cs[i * 3 + 1]? = some (.int .i64 s.off) ∧ cs[i * 3 + 2]? = some (.int .u64 s.v)) {g : Nat} (hg : w.heap.size = g) : NbRow (w.alloc (.cells cs ty)) g l := by
  subst hg
  exact ⟨by simp, fun i s hs => (cell_at (heap_al _ _) _).trans (h i s hs).1, fun i s hs => (cell_at (heap_al _ _) _).trans (h i s hs).2.1, fun i s hs => (cell_at (heap_al _ _) _).trans (h i s hs).2.2⟩
theorem nb_new4 {w : World} {a b c d : Nb} {ty : TypeId} {g : Nat} (hg : w.heap.size = g) : NbRow (w.alloc (.cells #[.int .i64 a.p, .int .i64 a.off, .int .u64 a.v, .int .i64 b.p, .int .i64 b.off, .int .u64 b.v, .int .i64 c.p, .int .i64 c.off, .int .u64 c.v, .int .i64 d.p, .int .i64 d.off, .int .u64 d.v] ty)) g [a, b, c, d] :=
  nb_new w _ _ ty (fun i s hs => by
    have hi : i < 4 := (List.getElem?_eq_some_iff.1 hs).1
    have : i = 0 ∨ i = 1 ∨ i = 2 ∨ i = 3 := by omega
    rcases this with rfl | rfl | rfl | rfl <;> cases Option.some.inj hs <;> exact ⟨rfl, rfl, rfl⟩) hg
theorem nb_new2 {w : World} {a b : Nb} {ty : TypeId} {g : Nat} (hg : w.heap.size = g) : NbRow (w.alloc (.cells #[.int .i64 a.p, .int .i64 a.off, .int .u64 a.v, .int .i64 b.p, .int .i64 b.off, .int .u64 b.v] ty)) g [a, b] :=
  nb_new w _ _ ty (fun i s hs => by
    have hi : i < 2 := (List.getElem?_eq_some_iff.1 hs).1
    have : i = 0 ∨ i = 1 := by omega
    rcases this with rfl | rfl <;> cases Option.some.inj hs <;> exact ⟨rfl, rfl, rfl⟩) hg
theorem nb_new1 {w : World} {a : Nb} {ty : TypeId} {g : Nat} (hg : w.heap.size = g) : NbRow (w.alloc (.cells #[.int .i64 a.p, .int .i64 a.off, .int .u64 a.v] ty)) g [a] :=
  nb_new w _ _ ty (fun i s hs => by
    have hi : i < 1 := (List.getElem?_eq_some_iff.1 hs).1
    have : i = 0 := by omega
    subst this
    cases Option.some.inj hs
    exact ⟨rfl, rfl, rfl⟩) hg
set_option maxHeartbeats 1000000 in
theorem PutHead_any {w : World} {c g len cap st en : Nat} {hi : Bool} {f : Nat → Int} (h : Cs w c 0 g len cap st en hi f) (kt : KT w) (zc : 0 < c) (zg : 0 < g) (d : Hd) (v : Four) (hv : FourOk v) :
    Calls Tryd.prog 7 #[.pointer (some ⟨c, 0, none⟩), hdV d, fourV v] w fun e w' => e = .returned (.int .i64 (pwE (headG d) len en d.size (hdN d v))) ∧ Cs w' c 0 g len cap st (pwN (headG d) len en d.size (hdN d v)) hi (pwF (headG d) hi len st en f d.size (hdN d v)) ∧ Cb c 0 g w w' := by
  have G := fun W (hW : Below w.heap.size w W) => isHead_any d W (kt.below kt.pos hW)
  unfold pwE pwN pwF
  cases hg : headG d with
  | false =>
    rw [hg] at G
    have H : Hid (Cs w c 0 g len cap st en hi f) := h
    clear h
    go_enter Tryd.func7, Tryd.ntmps7
    go_wp2_with (go_at_call 23; refine (G _ (bel2 _ _ _)).mono ?_; rintro e w1 ⟨rfl, hb1⟩)
    go_ret
    exact ⟨rfl, H.out.below (belT (bel2 _ _ _) hb1), Cb.of_below (belT (bel2 _ _ _) hb1) H.out.lt⟩
  | true =>
    rw [hg] at G
    obtain ⟨hsz, hsp⟩ := goods_ok hg
    have off : ∀ n ∈ hdN d v, 0 ≤ n.off ∧ n.off ≤ 65535 := by
      unfold hdS at hsp
      unfold hdN
      simp only [List.mem_cons, List.not_mem_nil, or_false] at hsp ⊢
      rintro n (rfl | rfl | rfl | rfl)
      · exact goodB_off (hsp _ (.inl rfl)) hsz.2
      · exact goodB_off (hsp _ (.inr (.inl rfl))) hsz.2
      · exact goodB_off (hsp _ (.inr (.inr (.inl rfl)))) hsz.2
      · exact goodB_off (hsp _ (.inr (.inr (.inr rfl)))) hsz.2
    have vok : ∀ n ∈ hdN d v, 0 ≤ n.v ∧ n.v < 18446744073709551616 := by
      unfold hdN
      simp only [List.mem_cons, List.not_mem_nil, or_false]
      rintro n (rfl | rfl | rfl | rfl)
      · exact hv.a
      · exact hv.b
      · exact hv.c
      · exact hv.d
    have WR := fun W (hW : Below w.heap.size w W) b (hb : w.heap.size ≤ b) (hr : NbRow W b (hdN d v)) => write_any (h.below hW) (kt.below kt.pos hW) zc zg d.size (hdN d v) b 4 hr ⟨off, vok⟩ (by simp [hdN]) (by have := h.lt; omega) (by have := h.row.lt; omega) hsz.1 hsz.2
    have hl : (hdN d v).length = 4 := rfl
    rw [hl] at WR
    have H : Hid (Cs w c 0 g len cap st en hi f) := h
    clear h off vok hsp hsz hl hg
    rw [if_pos rfl, if_pos rfl, if_pos rfl]
    go_enter Tryd.func7, Tryd.ntmps7
    go_wp2_with (first
      | (go_at_call 23; refine (G _ (bel2 _ _ _)).mono ?_; rintro e w1 ⟨rfl, hb1⟩; obtain ⟨hc1, hf1⟩ := bcell hb1)
      | (go_at_call 24; refine (WR _ (belT (belT (bel2 _ _ _) hb1) (bel1 _ _)) w1.heap.size (belT (bel2 _ _ _) hb1).size (nb_new4 rfl)).mono ?_; rintro e w2 ⟨rfl, R1, R2⟩))
    go_ret
    exact ⟨rfl, R1, (Cb.of_below (belT (belT (bel2 _ _ _) hb1) (bel1 _ _)) H.out.lt).trans R2⟩
def u64W (x : Int) : Int := x % 18446744073709551616
def dimS (t : Tk) : List (Int × Int) := [(t.a.p, t.a.o), (t.b.p, t.b.o)]
def dimN (t : Tk) (block count : Int) : List Nb := [⟨t.a.p, t.a.o, u64W block⟩, ⟨t.b.p, t.b.o, u64W count⟩]
theorem u64W_bd (x : Int) : 0 ≤ u64W x ∧ u64W x < 18446744073709551616 := by unfold u64W; omega
theorem dim_ok {t : Tk} (h : dimG t = true) : goods t.siz (dimS t) = true := by unfold dimG at h; rw [Bool.and_eq_true] at h; exact h.2
set_option maxRecDepth 20000 in
set_option maxHeartbeats 1000000 in
theorem PutDim_any {w : World} {c g len cap st en : Nat} {hi : Bool} {f : Nat → Int} (h : Cs w c 0 g len cap st en hi f) (kt : KT w) (zc : 0 < c) (zg : 0 < g) (t : Tk) (pc : Option Addr) (cc : Nat) (block count : Int) :
    Calls Tryd.prog 10 #[.pointer (some ⟨c, 0, none⟩), tkV t pc cc, .int .i64 block, .int .i64 count] w fun e w' => e = .returned (.int .i64 (pwE (dimG t) len en t.siz (dimN t block count))) ∧ Cs w' c 0 g len cap st (pwN (dimG t) len en t.siz (dimN t block count)) hi (pwF (dimG t) hi len st en f t.siz (dimN t block count)) ∧ Cb c 0 g w w' := by
  have G := fun W (hW : Below w.heap.size w W) => isDim_any t pc cc W (kt.below kt.pos hW)
  have LD := (tk_of (heap_al w (tkO t pc cc))).load
  unfold pwE pwN pwF
  cases hg : dimG t with
  | false =>
    rw [hg] at G
    have H : Hid (Cs w c 0 g len cap st en hi f) := h
    clear h
    go_enter Tryd.func10, Tryd.ntmps10
    go_wp2_with (first | (go_at_call 30; refine (G _ (bel1 _ _)).mono ?_; rintro e w1 ⟨rfl, hb1⟩) | (guard_target =~ wpList _ _ _ (Oper.mk _ (Op.load 35 _) _ _ _ _ :: _) _ _; go_must (refine wpList_ld 35 _ rfl rfl _ _ rfl LD ?_); simp only [pts]))
    go_ret
    exact ⟨rfl, H.out.below (belT (bel1 _ _) hb1), Cb.of_below (belT (bel1 _ _) hb1) H.out.lt⟩
  | true =>
    rw [hg] at G
    obtain ⟨hsz, hsp⟩ := goods_ok (dim_ok hg)
    have off : ∀ n ∈ dimN t block count, 0 ≤ n.off ∧ n.off ≤ 65535 := by
      unfold dimS at hsp
      unfold dimN
      simp only [List.mem_cons, List.not_mem_nil, or_false] at hsp ⊢
      rintro n (rfl | rfl)
      · exact goodB_off (hsp _ (.inl rfl)) hsz.2
      · exact goodB_off (hsp _ (.inr rfl)) hsz.2
    have vok : ∀ n ∈ dimN t block count, 0 ≤ n.v ∧ n.v < 18446744073709551616 := by
      unfold dimN
      simp only [List.mem_cons, List.not_mem_nil, or_false]
      rintro n (rfl | rfl)
      · exact u64W_bd _
      · exact u64W_bd _
    have WR := fun W (hW : Below w.heap.size w W) b (hb : w.heap.size ≤ b) (hr : NbRow W b (dimN t block count)) => write_any (h.below hW) (kt.below kt.pos hW) zc zg t.siz (dimN t block count) b 2 hr ⟨off, vok⟩ (by simp [dimN]) (by have := h.lt; omega) (by have := h.row.lt; omega) hsz.1 hsz.2
    have hl : (dimN t block count).length = 2 := rfl
    rw [hl] at WR
    have H : Hid (Cs w c 0 g len cap st en hi f) := h
    have w1' : IntKind.u64.wrap block = u64W block := IntKind.wrap_u64 _
    have w2' : IntKind.u64.wrap count = u64W count := IntKind.wrap_u64 _
    clear h off vok hsp hsz hl hg
    rw [if_pos rfl, if_pos rfl, if_pos rfl]
    go_enter Tryd.func10, Tryd.ntmps10
    go_wp2_with (first
      | (go_at_call 30; refine (G _ (bel1 _ _)).mono ?_; rintro e w1 ⟨rfl, hb1⟩; obtain ⟨hc1, hf1⟩ := bcell hb1)
      | (guard_target =~ wpList _ _ _ (Oper.mk _ (Op.load 35 _) _ _ _ _ :: _) _ _; go_must (refine wpList_ld 35 _ rfl rfl _ _ rfl LD ?_); simp only [pts])
      | (go_at_call 24; refine (WR _ (belT (belT (bel1 _ _) hb1) (bel1 _ _)) w1.heap.size (belT (bel1 _ _) hb1).size (nb_new2 rfl)).mono ?_; rintro e w2 ⟨rfl, R1, R2⟩))
    go_ret
    exact ⟨rfl, R1, (Cb.of_below (belT (belT (bel1 _ _) hb1) (bel1 _ _)) H.out.lt).trans R2⟩
end Go.Proofs.YtfhphjgcmbneeaaDoor

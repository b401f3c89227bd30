/- CuI, CuJ. -/
import Derived.Test.YtgklippjoikadaaDoorK12
namespace Go.Proofs.YtgklippjoikadaaDoor
open Go.ChangeShapes Go.WideShapes Go.ChangeAt Go.RowKit

structure Four where
  a : Int
  b : Int
  c : Int
  d : Int
structure FourOk (v : Four) : Prop where
  a : 0 ≤ v.a ∧ v.a < 18446744073709551616
  b : 0 ≤ v.b ∧ v.b < 18446744073709551616
  c : 0 ≤ v.c ∧ v.c < 18446744073709551616
  d : 0 ≤ v.d ∧ v.d < 18446744073709551616
abbrev fourV (v : Four) : Value := .agg #[.int .u64 v.a, .int .u64 v.b, .int .u64 v.c, .int .u64 v.d]
def hdN (h : Hd) (v : Four) : List Nb := [⟨h.b.p, h.b.o, v.a⟩, ⟨h.t.p, h.t.o, v.b⟩, ⟨h.s.p, h.s.o, v.c⟩, ⟨h.v.p, h.v.o, v.d⟩]
/-- A write that is refused where the spots are none. -/
def pwE (g : Bool) (len en : Nat) (size : Int) (ns : List Nb) : Int := if g then wrE len en size ns else 1
def pwN (g : Bool) (len en : Nat) (size : Int) (ns : List Nb) : Nat := if g then wrN len en size ns else en
def pwF (g : Bool) (hi : Bool) (len st en : Nat) (f : Nat → Int) (size : Int) (ns : List Nb) : Nat → Int := if g then wrF hi len st en f size ns else f
theorem goods_ok {size : Int} {l : List (Int × Int)} (h : goods size l = true) : (1 ≤ size ∧ size ≤ 65535) ∧ ∀ s ∈ l, goodB size s.1 s.2 = true := by
  unfold goods at h
  rw [Bool.and_eq_true] at h
  exact ⟨of_decide_eq_true h.1, fun s hs => List.all_eq_true.1 h.2 s hs⟩
theorem goodB_ok {size p off : Int} (h : goodB size p off = true) : (p = 5 ∨ p = 6 ∨ p = 7) ∧ 0 ≤ off ∧ off ≤ size - sz p := of_decide_eq_true h
theorem goodB_off {size p off : Int} (h : goodB size p off = true) (hs : size ≤ 65535) : 0 ≤ off ∧ off ≤ 65535 := by
  have := goodB_ok h
  have := sz_cases p
  omega
theorem nb_new (w : World) (l : List Nb) (cs : Array Value) (ty : TypeId) (h : ∀ i s, l[i]? = some s → cs[i * 3]? = some (.int .i64 s.p) ∧ cs[i * 3 + 1]? = some (.int .i64 s.off) ∧ cs[i * 3 + 2]? = some (.int .u64 s.v)) {g : Nat} (hg : w.heap.size = g) : NbRow (w.alloc (.cells cs ty)) g l := by
  subst hg
  exact ⟨by simp, fun i s hs => (cell_at (heap_al _ _) _).trans (h i s hs).1, fun i s hs => (cell_at (heap_al _ _) _).trans (h i s hs).2.1, fun i s hs => (cell_at (heap_al _ _) _).trans (h i s hs).2.2⟩
theorem nb_new4 {w : World} {a b c d : Nb} {ty : TypeId} {g : Nat} (hg : w.heap.size = g) : NbRow (w.alloc (.cells #[.int .i64 a.p, .int .i64 a.off, .int .u64 a.v, .int .i64 b.p, .int .i64 b.off, .int .u64 b.v, .int .i64 c.p, .int .i64 c.off, .int .u64 c.v, .int .i64 d.p, .int .i64 d.off, .int .u64 d.v] ty)) g [a, b, c, d] :=
  nb_new w _ _ ty (fun i s hs => by
    have hi : i < 4 := (List.getElem?_eq_some_iff.1 hs).1
    have : i = 0 ∨ i = 1 ∨ i = 2 ∨ i = 3 := by omega
    rcases this with rfl | rfl | rfl | rfl <;> cases Option.some.inj hs <;> exact ⟨rfl, rfl, rfl⟩) hg
theorem nb_new2 {w : World} {a b : Nb} {ty : TypeId} {g : Nat} (hg : w.heap.size = g) : NbRow (w.alloc (.cells #[.int .i64 a.p, .int .i64 a.off, .int .u64 a.v, .int .i64 b.p, .int .i64 b.off, .int .u64 b.v] ty)) g [a, b] :=
  nb_new w _ _ ty (fun i s hs => by
    have hi : i < 2 := (List.getElem?_eq_some_iff.1 hs).1
    have : i = 0 ∨ i = 1 := by omega
    rcases this with rfl | rfl <;> cases Option.some.inj hs <;> exact ⟨rfl, rfl, rfl⟩) hg
theorem nb_new1 {w : World} {a : Nb} {ty : TypeId} {g : Nat} (hg : w.heap.size = g) : NbRow (w.alloc (.cells #[.int .i64 a.p, .int .i64 a.off, .int .u64 a.v] ty)) g [a] :=
  nb_new w _ _ ty (fun i s hs => by
    have hi : i < 1 := (List.getElem?_eq_some_iff.1 hs).1
    have : i = 0 := by omega
    subst this
    cases Option.some.inj hs
    exact ⟨rfl, rfl, rfl⟩) hg
set_option maxHeartbeats 1000000 in
theorem PutHead_any {w : World} {c g len cap st en : Nat} {hi : Bool} {f : Nat → Int} (h : Cs w c 0 g len cap st en hi f) (kt : KT w) (zc : 0 < c) (zg : 0 < g) (d : Hd) (v : Four) (hv : FourOk v) :
    Calls Tryd.prog 13 #[.pointer (some ⟨c, 0, none⟩), hdV d, fourV v] w fun e w' => e = .returned (.int .i64 (pwE (headG d) len en d.size (hdN d v))) ∧ Cs w' c 0 g len cap st (pwN (headG d) len en d.size (hdN d v)) hi (pwF (headG d) hi len st en f d.size (hdN d v)) ∧ Cb c 0 g w w' := by
  have G := fun W (hW : Below w.heap.size w W) => isHead_any d W (kt.below kt.pos hW)
  unfold pwE pwN pwF
  cases hg : headG d with
  | false =>
    rw [hg] at G
    have H : Hid (Cs w c 0 g len cap st en hi f) := h
    clear h
    go_enter Tryd.func13, Tryd.ntmps13
    go_wp2_with (go_at_call 36; refine (G _ (bel2 _ _ _)).mono ?_; rintro e w1 ⟨rfl, hb1⟩)
    go_ret
    exact ⟨rfl, H.out.below (belT (bel2 _ _ _) hb1), Cb.of_below (belT (bel2 _ _ _) hb1) H.out.lt⟩
  | true =>
    rw [hg] at G
    obtain ⟨hsz, hsp⟩ := goods_ok hg
    have off : ∀ n ∈ hdN d v, 0 ≤ n.off ∧ n.off ≤ 65535 := by
      unfold hdS at hsp
      unfold hdN
      simp only [List.mem_cons, List.not_mem_nil, or_false] at hsp ⊢
      rintro n (rfl | rfl | rfl | rfl)
      · exact goodB_off (hsp _ (.inl rfl)) hsz.2
      · exact goodB_off (hsp _ (.inr (.inl rfl))) hsz.2
      · exact goodB_off (hsp _ (.inr (.inr (.inl rfl)))) hsz.2
      · exact goodB_off (hsp _ (.inr (.inr (.inr rfl)))) hsz.2
    have vok : ∀ n ∈ hdN d v, 0 ≤ n.v ∧ n.v < 18446744073709551616 := by
      unfold hdN
      simp only [List.mem_cons, List.not_mem_nil, or_false]
      rintro n (rfl | rfl | rfl | rfl)
      · exact hv.a
      · exact hv.b
      · exact hv.c
      · exact hv.d
    have WR := fun W (hW : Below w.heap.size w W) b (hb : w.heap.size ≤ b) (hr : NbRow W b (hdN d v)) => write_any (h.below hW) (kt.below kt.pos hW) zc zg d.size (hdN d v) b 4 hr ⟨off, vok⟩ (by simp [hdN]) (by have := h.lt; omega) (by have := h.row.lt; omega) hsz.1 hsz.2
    have hl : (hdN d v).length = 4 := rfl
    rw [hl] at WR
    have H : Hid (Cs w c 0 g len cap st en hi f) := h
    clear h off vok hsp hsz hl hg
    rw [if_pos rfl, if_pos rfl, if_pos rfl]
    go_enter Tryd.func13, Tryd.ntmps13
    go_wp2_with (first
      | (go_at_call 36; refine (G _ (bel2 _ _ _)).mono ?_; rintro e w1 ⟨rfl, hb1⟩; obtain ⟨hc1, hf1⟩ := bcell hb1)
      | (go_at_call 37; refine (WR _ (belT (belT (bel2 _ _ _) hb1) (bel1 _ _)) w1.heap.size (belT (bel2 _ _ _) hb1).size (nb_new4 rfl)).mono ?_; rintro e w2 ⟨rfl, R1, R2⟩))
    go_ret
    exact ⟨rfl, R1, (Cb.of_below (belT (belT (bel2 _ _ _) hb1) (bel1 _ _)) H.out.lt).trans R2⟩
def u64W (x : Int) : Int := x % 18446744073709551616
def dimS (t : Tk) : List (Int × Int) := [(t.a.p, t.a.o), (t.b.p, t.b.o)]
def dimN (t : Tk) (block count : Int) : List Nb := [⟨t.a.p, t.a.o, u64W block⟩, ⟨t.b.p, t.b.o, u64W count⟩]
theorem u64W_bd (x : Int) : 0 ≤ u64W x ∧ u64W x < 18446744073709551616 := by unfold u64W; omega
theorem dim_ok {t : Tk} (h : dimG t = true) : goods t.siz (dimS t) = true := by unfold dimG at h; rw [Bool.and_eq_true] at h; exact h.2
set_option maxRecDepth 20000 in
set_option maxHeartbeats 1000000 in
theorem PutDim_any {w : World} {c g len cap st en : Nat} {hi : Bool} {f : Nat → Int} (h : Cs w c 0 g len cap st en hi f) (kt : KT w) (zc : 0 < c) (zg : 0 < g) (t : Tk) (pc : Option Addr) (cc : Nat) (block count : Int) :
    Calls Tryd.prog 16 #[.pointer (some ⟨c, 0, none⟩), tkV t pc cc, .int .i64 block, .int .i64 count] w fun e w' => e = .returned (.int .i64 (pwE (dimG t) len en t.siz (dimN t block count))) ∧ Cs w' c 0 g len cap st (pwN (dimG t) len en t.siz (dimN t block count)) hi (pwF (dimG t) hi len st en f t.siz (dimN t block count)) ∧ Cb c 0 g w w' := by
  have G := fun W (hW : Below w.heap.size w W) => isDim_any t pc cc W (kt.below kt.pos hW)
  have LD := (tk_of (heap_al w (tkO t pc cc))).load
  unfold pwE pwN pwF
  cases hg : dimG t with
  | false =>
    rw [hg] at G
    have H : Hid (Cs w c 0 g len cap st en hi f) := h
    clear h
    go_enter Tryd.func16, Tryd.ntmps16
    go_wp2_with (first | (go_at_call 43; refine (G _ (bel1 _ _)).mono ?_; rintro e w1 ⟨rfl, hb1⟩) | (guard_target =~ wpList _ _ _ (Oper.mk _ (Op.load 48 _) _ _ _ _ :: _) _ _; go_must (refine wpList_ld 48 _ rfl rfl _ _ rfl LD ?_); simp only [pts]))
    go_ret
    exact ⟨rfl, H.out.below (belT (bel1 _ _) hb1), Cb.of_below (belT (bel1 _ _) hb1) H.out.lt⟩
  | true =>
    rw [hg] at G
    obtain ⟨hsz, hsp⟩ := goods_ok (dim_ok hg)
    have off : ∀ n ∈ dimN t block count, 0 ≤ n.off ∧ n.off ≤ 65535 := by
      unfold dimS at hsp
      unfold dimN
      simp only [List.mem_cons, List.not_mem_nil, or_false] at hsp ⊢
      rintro n (rfl | rfl)
      · exact goodB_off (hsp _ (.inl rfl)) hsz.2
      · exact goodB_off (hsp _ (.inr rfl)) hsz.2
    have vok : ∀ n ∈ dimN t block count, 0 ≤ n.v ∧ n.v < 18446744073709551616 := by
      unfold dimN
      simp only [List.mem_cons, List.not_mem_nil, or_false]
      rintro n (rfl | rfl)
      · exact u64W_bd _
      · exact u64W_bd _
    have WR := fun W (hW : Below w.heap.size w W) b (hb : w.heap.size ≤ b) (hr : NbRow W b (dimN t block count)) => write_any (h.below hW) (kt.below kt.pos hW) zc zg t.siz (dimN t block count) b 2 hr ⟨off, vok⟩ (by simp [dimN]) (by have := h.lt; omega) (by have := h.row.lt; omega) hsz.1 hsz.2
    have hl : (dimN t block count).length = 2 := rfl
    rw [hl] at WR
    have H : Hid (Cs w c 0 g len cap st en hi f) := h
    have w1' : IntKind.u64.wrap block = u64W block := IntKind.wrap_u64 _
    have w2' : IntKind.u64.wrap count = u64W count := IntKind.wrap_u64 _
    clear h off vok hsp hsz hl hg
    rw [if_pos rfl, if_pos rfl, if_pos rfl]
    go_enter Tryd.func16, Tryd.ntmps16
    go_wp2_with (first
      | (go_at_call 43; refine (G _ (bel1 _ _)).mono ?_; rintro e w1 ⟨rfl, hb1⟩; obtain ⟨hc1, hf1⟩ := bcell hb1)
      | (guard_target =~ wpList _ _ _ (Oper.mk _ (Op.load 48 _) _ _ _ _ :: _) _ _; go_must (refine wpList_ld 48 _ rfl rfl _ _ rfl LD ?_); simp only [pts])
      | (go_at_call 37; refine (WR _ (belT (belT (bel1 _ _) hb1) (bel1 _ _)) w1.heap.size (belT (bel1 _ _) hb1).size (nb_new2 rfl)).mono ?_; rintro e w2 ⟨rfl, R1, R2⟩))
    go_ret
    exact ⟨rfl, R1, (Cb.of_below (belT (belT (bel1 _ _) hb1) (bel1 _ _)) H.out.lt).trans R2⟩
end Go.Proofs.YtgklippjoikadaaDoor
namespace Go.Proofs.YtgklippjoikadaaDoor
open Go.ChangeShapes Go.WideShapes Go.ChangeAt Go.RowKit

def lenS (t : Tk) : List (Int × Int) := [(t.a.p, t.a.o)]
def lenN (t : Tk) (n : Nat) : List Nb := [⟨t.a.p, t.a.o, n⟩]
def pdE (len en : Nat) (t : Tk) (n : Nat) : Int := if lenG t then (if mx t.a.p < n then 164 else if (len : Int) - en - t.siz < n then 11 else 0) else 1
def pdN (len en : Nat) (t : Tk) (n : Nat) : Nat := if pdE len en t n = 0 then en + t.siz.toNat + n else en
def pdF (hi : Bool) (len st en : Nat) (f : Nat → Int) (t : Tk) (s : ByteArray) : Nat → Int := if pdE len en t s.size = 0 then lay (wrF hi len st en f t.siz (lenN t s.size)) (en + t.siz.toNat) s.size s else f
theorem len_ok {t : Tk} (h : lenG t = true) : goods t.siz (lenS t) = true := by unfold lenG at h; rw [Bool.and_eq_true] at h; exact h.2
theorem mx_bd {p : Int} (h : p = 5 ∨ p = 6 ∨ p = 7) : 0 ≤ mx p ∧ mx p ≤ 4294967294 := by rcases h with rfl | rfl | rfl <;> decide
theorem over_one (n : Nb) (h : ¬ mx n.p < n.v) : over [n] = false := by unfold over; simp; omega
set_option maxRecDepth 20000 in
set_option maxHeartbeats 1000000 in
theorem PutData_any {w : World} {c g len cap st en : Nat} {hi : Bool} {f : Nat → Int} (h : Cs w c 0 g len cap st en hi f) (kt : KT w) (zc : 0 < c) (zg : 0 < g) (t : Tk) (pc : Option Addr) (cc : Nat) (s : ByteArray) (hs : s.size ≤ 281474976710656) :
    Calls Tryd.prog 17 #[.pointer (some ⟨c, 0, none⟩), tkV t pc cc, .string s] w fun e w' => e = .returned (.int .i64 (pdE len en t s.size)) ∧ Cs w' c 0 g len cap st (pdN len en t s.size) hi (pdF hi len st en f t s) ∧ Cb c 0 g w w' := by
  have G := fun W (hW : Below w.heap.size w W) => isLen_any t pc cc W (kt.below kt.pos hW)
  have LD := (tk_of (heap_al w (tkO t pc cc))).load
  have M := fun W (hW : Below w.heap.size w W) => max_any t.a.p W (kt.below kt.pos hW)
  have H : Hid (Cs w c 0 g len cap st en hi f) := h
  cases hg : lenG t with
  | false =>
    have e1 : pdE len en t s.size = 1 := by unfold pdE; rw [hg]; rfl
    have e2 : pdN len en t s.size = en := by unfold pdN; rw [e1]; rfl
    have e3 : pdF hi len st en f t s = f := by unfold pdF; rw [e1]; rfl
    rw [e1, e2, e3]
    clear e1 e2 e3
    rw [hg] at G
    clear h
    go_enter Tryd.func17, Tryd.ntmps17
    go_wp2_with (first | (go_at_call 44; refine (G _ (bel1 _ _)).mono ?_; rintro e w1 ⟨rfl, hb1⟩) | (guard_target =~ wpList _ _ _ (Oper.mk _ (Op.load 48 _) _ _ _ _ :: _) _ _; go_must (refine wpList_ld 48 _ rfl rfl _ _ rfl LD ?_); simp only [pts]))
    go_ret
    exact ⟨rfl, H.out.below (belT (bel1 _ _) hb1), Cb.of_below (belT (bel1 _ _) hb1) H.out.lt⟩
  | true =>
    rw [hg] at G
    obtain ⟨hsz, hsp⟩ := goods_ok (len_ok hg)
    have gA := goodB_ok (hsp (t.a.p, t.a.o) (by simp [lenS]))
    have mb := mx_bd gA.1
    have wl : IntKind.u64.wrap (s.size : Int) = (s.size : Int) := by rw [IntKind.wrap_u64]; omega
    by_cases hm : mx t.a.p < (s.size : Int)
    · have e1 : pdE len en t s.size = 164 := by unfold pdE; rw [hg, if_pos rfl, if_pos hm]
      have e2 : pdN len en t s.size = en := by unfold pdN; rw [e1]; rfl
      have e3 : pdF hi len st en f t s = f := by unfold pdF; rw [e1]; rfl
      rw [e1, e2, e3]
      clear e1 e2 e3 h hsp hg
      go_enter Tryd.func17, Tryd.ntmps17
      go_wp2_with (first | (go_at_call 44; refine (G _ (bel1 _ _)).mono ?_; rintro e w1 ⟨rfl, hb1⟩; obtain ⟨hc1, hf1⟩ := bcell hb1) | (guard_target =~ wpList _ _ _ (Oper.mk _ (Op.load 48 _) _ _ _ _ :: _) _ _; go_must (refine wpList_ld 48 _ rfl rfl _ _ rfl LD ?_); simp only [pts]) | (go_at_call 45; refine (M _ (belT (bel1 _ _) hb1)).mono ?_; rintro e w2 ⟨rfl, hb2⟩))
      go_ret
      have B2 := belT (belT (bel1 _ _) hb1) hb2
      exact ⟨rfl, H.out.below B2, Cb.of_below B2 H.out.lt⟩
    · have hR := fun W (hW : Below w.heap.size w W) => Room_any (h.below hW)
      have h2' := h.h2
      have h4' := h.h4
      have wr1 : IntKind.i64.wrap ((len : Int) - en - t.siz) = (len : Int) - en - t.siz := by rw [IntKind.wrap_i64]; omega
      by_cases hq : (len : Int) - en - t.siz < s.size
      · have e1 : pdE len en t s.size = 11 := by unfold pdE; rw [hg, if_pos rfl, if_neg hm, if_pos hq]
        have e2 : pdN len en t s.size = en := by unfold pdN; rw [e1]; rfl
        have e3 : pdF hi len st en f t s = f := by unfold pdF; rw [e1]; rfl
        rw [e1, e2, e3]
        clear e1 e2 e3 h hsp hg
        go_enter Tryd.func17, Tryd.ntmps17
        go_wp2_with (first | (go_at_call 44; refine (G _ (bel1 _ _)).mono ?_; rintro e w1 ⟨rfl, hb1⟩; obtain ⟨hc1, hf1⟩ := bcell hb1) | (guard_target =~ wpList _ _ _ (Oper.mk _ (Op.load 48 _) _ _ _ _ :: _) _ _; go_must (refine wpList_ld 48 _ rfl rfl _ _ rfl LD ?_); simp only [pts]) | (go_at_call 45; refine (M _ (belT (bel1 _ _) hb1)).mono ?_; rintro e w2 ⟨rfl, hb2⟩; have B2 := belT (belT (bel1 _ _) hb1) hb2; obtain ⟨hc2, hf2⟩ := bcell hb2))
        have a4 : w2.cell? ⟨w.heap.size, 4, none⟩ = some (.int .i64 t.siz) := by rw [hc2 _ _ (Nat.lt_of_lt_of_le (by simp) hb1.size), hc1 _ _ (by simp)]; simp
        replace B2 : Hid _ := B2
        clear hc1 hf1 hc2 hf2 hb1 hb2
        go_quiet (first | (go_at_call 8; refine Calls.quiet_of (hR _ ?_); exact below_drewN B2.out _))
        go_wp2_with fail
        go_ret
        exact ⟨rfl, H.out.below (below_drewN B2.out _), Cb.of_below (below_drewN B2.out _) H.out.lt⟩
      · have e1 : pdE len en t s.size = 0 := by unfold pdE; rw [hg, if_pos rfl, if_neg hm, if_neg hq]
        have e2 : pdN len en t s.size = en + t.siz.toNat + s.size := by unfold pdN; rw [e1]; rfl
        have e3 : pdF hi len st en f t s = lay (wrF hi len st en f t.siz (lenN t s.size)) (en + t.siz.toNat) s.size s := by unfold pdF; rw [e1]; rfl
        rw [e1, e2, e3]
        have off : ∀ n ∈ lenN t s.size, 0 ≤ n.off ∧ n.off ≤ 65535 := by
          unfold lenN
          simp only [List.mem_cons, List.not_mem_nil, or_false]
          rintro n rfl
          exact goodB_off (hsp (t.a.p, t.a.o) (by simp [lenS])) hsz.2
        have vok : ∀ n ∈ lenN t s.size, 0 ≤ n.v ∧ n.v < 18446744073709551616 := by
          unfold lenN
          simp only [List.mem_cons, List.not_mem_nil, or_false]
          rintro n rfl
          exact ⟨by show (0 : Int) ≤ (s.size : Int); omega, by show (s.size : Int) < _; omega⟩
        have WR := fun W (hW : Below w.heap.size w W) b (hb : w.heap.size ≤ b) (hr : NbRow W b (lenN t s.size)) => write_any (h.below hW) (kt.below kt.pos hW) zc zg t.siz (lenN t s.size) b 1 hr ⟨off, vok⟩ (by simp [lenN]) (by have := h.lt; omega) (by have := h.row.lt; omega) hsz.1 hsz.2
        have hl : (lenN t s.size).length = 1 := rfl
        have ew : wrE len en t.siz (lenN t s.size) = 0 := by
          unfold wrE lenN
          rw [over_one _ (by exact hm)]
          unfold clE
          rw [if_neg (by decide), if_neg (by omega), if_neg (by omega)]
        have en' : wrN len en t.siz (lenN t s.size) = en + t.siz.toNat := by unfold wrN; rw [ew]; rfl
        rw [hl, en'] at WR
        have GR := fun W f' (hW : Cs W c 0 g len cap st (en + t.siz.toNat) hi f') => grow_any hW s.size (by omega)
        have h1' := h.h1
        obtain ⟨s1, s2⟩ := setZ (st := st) (en := en + t.siz.toNat + s.size) (at' := (en + t.siz.toNat : Nat)) (n := s.size) (t := s) (f := wrF hi len st en f t.siz (lenN t s.size)) (by omega) (inC_yes (by omega))
        rw [if_pos (Int.le_refl _)] at s1 s2
        have SC := fun W (hW : Cs W c 0 g len cap st (en + t.siz.toNat + s.size) hi (wrF hi len st en f t.siz (lenN t s.size))) => SetCu_any hW ((en + t.siz.toNat : Nat)) s.size s (by omega)
        rw [s1, s2] at SC
        clear e1 e2 e3 h hsp hg off vok hl ew en' s1 s2
        rw [show ((((en + t.siz.toNat : Nat) : Int)).toNat) = en + t.siz.toNat by omega, show (((s.size : Nat) : Int).toNat) = s.size by omega] at SC
        obtain ⟨e0, he0⟩ : ∃ e0, en + t.siz.toNat = e0 := ⟨_, rfl⟩
        rw [he0] at WR SC GR ⊢
        replace he0 : Hid _ := he0
        generalize wrF hi len st en f t.siz (lenN t s.size) = f1 at WR SC ⊢
        go_enter Tryd.func17, Tryd.ntmps17
        go_wp2_with (first | (go_at_call 44; refine (G _ (bel1 _ _)).mono ?_; rintro e w1 ⟨rfl, hb1⟩; obtain ⟨hc1, hf1⟩ := bcell hb1) | (guard_target =~ wpList _ _ _ (Oper.mk _ (Op.load 48 _) _ _ _ _ :: _) _ _; go_must (refine wpList_ld 48 _ rfl rfl _ _ rfl LD ?_); simp only [pts]) | (go_at_call 45; refine (M _ (belT (bel1 _ _) hb1)).mono ?_; rintro e w2 ⟨rfl, hb2⟩; have B2 := belT (belT (bel1 _ _) hb1) hb2; obtain ⟨hc2, hf2⟩ := bcell hb2))
        have a4 : w2.cell? ⟨w.heap.size, 4, none⟩ = some (.int .i64 t.siz) := by rw [hc2 _ _ (Nat.lt_of_lt_of_le (by simp) hb1.size), hc1 _ _ (by simp)]; simp
        have a16 : w2.cell? ⟨w.heap.size, 16, none⟩ = some (.int .i64 t.a.p) := by rw [hc2 _ _ (Nat.lt_of_lt_of_le (by simp) hb1.size), hc1 _ _ (by simp)]; simp
        have a17 : w2.cell? ⟨w.heap.size, 17, none⟩ = some (.int .i64 t.a.o) := by rw [hc2 _ _ (Nat.lt_of_lt_of_le (by simp) hb1.size), hc1 _ _ (by simp)]; simp
        replace B2 : Hid _ := B2
        clear hc1 hf1 hc2 hf2 hb1 hb2
        go_quiet (first | (go_at_call 8; refine Calls.quiet_of (hR _ ?_); exact below_drewN B2.out _))
        go_wp2_with (first
          | (go_at_call 37; refine (WR _ (belT (below_drewN B2.out _) (bel1 _ _)) w2.heap.size B2.out.size (nb_new1 rfl)).mono ?_; rintro e w4 ⟨rfl, R1, R2⟩)
          | (go_at_call 38; refine (GR _ _ R1).mono ?_; rintro e w5 ⟨rfl, R3, R4⟩)
          | (go_at_call 28; refine (SC _ R3).mono ?_; rintro e w6 ⟨rfl, R5, R6⟩))
        go_ret
        exact ⟨rfl, R5, (Cb.of_below (belT (below_drewN B2.out _) (bel1 _ _)) H.out.lt).trans (R2.trans (R4.trans (Cb.of_only R6 R3.lt R3.ne)))⟩
end Go.Proofs.YtgklippjoikadaaDoor

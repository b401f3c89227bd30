/- ISq, IMem, IMp, ILx2, ICk. -/
import Derived.Test.YtepnmfgbflogkaaDoorF04
import Derived.Deep.AppendLies
import Derived.Deep.AppendSrc
import Derived.Laws.AppendOwn
import Derived.Maps.Own
import Derived.Maps.OwnSet
import Derived.Maps.OwnOps
namespace Go.Proofs.YtepnmfgbflogkaaDoor
open Go.ChangeShapes Go.WideShapes Go.ChangeAt Go.RowKit Go.Shelf

theorem drop_at {α : Type} {l : List α} {j : Nat} {a : α} (h : l[j]? = some a) : l.drop j = a :: l.drop (j + 1) := by
  obtain ⟨h1, h2⟩ := List.getElem?_eq_some_iff.1 h
  rw [List.drop_eq_getElem_cons h1, h2]
theorem take_at {α : Type} {l : List α} {j : Nat} {a : α} (h : l[j]? = some a) : l.take (j + 1) = l.take j ++ [a] := by
  rw [List.take_add_one, h]; rfl
/-- Spots that lie in n bytes, and apart, those ahead of them known. -/
def spOk (n : Int) : List Sp → List Sp → Bool
  | _, [] => true
  | pre, s :: r => lieB s n && pre.all (aptB s) && spOk n (pre ++ [s]) r
/-- Spots in memory. -/
structure SpRow (w : World) (g o : Nat) (l : List Sp) : Prop where
  c : ∀ (i : Nat) (s : Sp), l[i]? = some s → w.cell? ⟨g, o + i * 2, none⟩ = some (.int .i64 s.p) ∧ w.cell? ⟨g, o + i * 2 + 1, none⟩ = some (.int .i64 s.o)
theorem SpRow.below {w w' : World} {g o B : Nat} {l : List Sp} (h : SpRow w g o l) (hg : g < B) (hb : Below B w w') : SpRow w' g o l :=
  ⟨fun i s hs => ⟨(hb.cell (p := ⟨g, o + i * 2, none⟩) hg).trans (h.c i s hs).1, (hb.cell (p := ⟨g, o + i * 2 + 1, none⟩) hg).trans (h.c i s hs).2⟩⟩
set_option maxHeartbeats 4000000 in
theorem areSpots_any (l : List Sp) (n : Int) (g o cp : Nat) (w : World) (h : KT w) (hg : g < w.heap.size) (hr : SpRow w g o l) (hl : l.length ≤ 4) (hcp : l.length ≤ cp) (hn : 0 ≤ n ∧ n ≤ 9223372036854775000) :
    Calls Tryd.prog 42 #[.int .i64 n, .slice (some ⟨g, o, none⟩) l.length cp] w fun r w' => r = .returned (.bool (spOk n [] l)) ∧ Below w.heap.size w w' := by
  obtain ⟨Z, hZ⟩ : ∃ Z, spOk n [] l = Z := ⟨_, rfl⟩
  rw [hZ]
  go_enter Tryd.func42, Tryd.ntmps42
  go_wp2_with fail
  go_loopw [11] (fun q wr => ∃ j : Nat, j ≤ l.length ∧ q = .int .i64 j ∧ Below w.heap.size w wr ∧ (∀ t ∈ l.take j, lieB t n = true) ∧ spOk n (l.take j) (l.drop j) = Z) (fun q _ => l.length - (RowKit.intOf q).toNat)
  case atStart => exact ⟨0, Nat.zero_le _, rfl, Below.refl _ _, fun t ht => absurd ht List.not_mem_nil, hZ⟩
  case round =>
    obtain ⟨wo, hwo⟩ : ∃ wo, wo = wr := ⟨_, rfl⟩
    subst hwo
    obtain ⟨j, hj, rfl, hB, hL, hR⟩ := hrel
    by_cases hlt : j < l.length
    · obtain ⟨s, hs⟩ : ∃ s, l[j]? = some s := ⟨l[j], List.getElem?_eq_getElem hlt⟩
      obtain ⟨c0, c1⟩ := (hr.below hg hB).c j s hs
      have hlti : (j : Int) < l.length := by omega
      have hji : (j : Int) ≤ cp := by omega
      rw [drop_at hs, spOk] at hR
      have cL := fun W hW => liesIn_any s n W hW (by omega)
      cases k1 : lieB s n with
      | false =>
        rw [k1] at hR cL
        simp only [Bool.false_and] at hR
        subst hR
        go_wp2_with (go_at_call 62; refine (cL _ (h.up (hB.alloc hB.size _))).mono ?_; rintro _ w1 ⟨rfl, hb⟩)
        go_ret
        exact ⟨rfl, (hB.alloc hB.size _).trans (hb.mono (hB.alloc hB.size _).size)⟩
      | true =>
        rw [k1] at hR cL
        simp only [Bool.true_and] at hR
        have hin : (l.take j).length = j := by rw [List.length_take]; omega
        have ls := k1
        unfold lieB at ls
        rw [Bool.and_eq_true] at ls
        have ls := decT ls.2
        have hz := sz_b s.p
        cases k2 : (l.take j).all (aptB s) with
        | false =>
          rw [k2] at hR
          simp only [Bool.false_and] at hR
          subst hR
          go_wp2_with (go_at_call 62; refine (cL _ (h.up (hB.alloc hB.size _))).mono ?_; rintro _ w1 ⟨rfl, hb⟩)
          have hA := hB.alloc hB.size (.cells #[.int .i64 s.p, .int .i64 s.o] 25)
          have hC : Below (wo.heap.size + 1) (wo.alloc (.cells #[.int .i64 s.p, .int .i64 s.o] 25)) w1 := (Below.refl _ _).trans (hb.mono (szal _ _))
          go_loopw [24] (fun q wq => ∃ k : Nat, k ≤ j ∧ q = .int .i64 k ∧ Below (wo.heap.size + 1) (wo.alloc (.cells #[.int .i64 s.p, .int .i64 s.o] 25)) wq ∧ ((l.take j).drop k).all (aptB s) = false) (fun q _ => j - (RowKit.intOf q).toNat)
          case atStart => exact ⟨0, Nat.zero_le _, rfl, hC, k2⟩
          case round =>
            obtain ⟨k, hk, rfl, hD, hQ⟩ := hrel
            have hE : Below w.heap.size w wr := hA.trans (hD.mono (Nat.le_succ_of_le hB.size))
            by_cases hkj : k < j
            · obtain ⟨t, ht⟩ : ∃ t, l[k]? = some t := ⟨l[k], List.getElem?_eq_getElem (by omega)⟩
              have ht2 : (l.take j)[k]? = some t := by rw [List.getElem?_take, if_pos hkj]; exact ht
              obtain ⟨d0, d1⟩ := (hr.below hg hE).c k t ht
              have hlo : wo.heap.size < wr.heap.size := Nat.lt_of_lt_of_le (szal _ _) hD.size
              have e0 : (wr.alloc (.cells #[.int .i64 t.p, .int .i64 t.o] 25)).cell? ⟨wo.heap.size, 0, none⟩ = some (.int .i64 s.p) := ((bel1 wr _).cell (p := ⟨wo.heap.size, 0, none⟩) hlo).trans (own_cell rfl hD 0)
              have e1 : (wr.alloc (.cells #[.int .i64 t.p, .int .i64 t.o] 25)).cell? ⟨wo.heap.size, 1, none⟩ = some (.int .i64 s.o) := ((bel1 wr _).cell (p := ⟨wo.heap.size, 1, none⟩) hlo).trans (own_cell rfl hD 1)
              have lt := hL t (List.mem_of_getElem? ht2)
              unfold lieB at lt
              rw [Bool.and_eq_true] at lt
              have lt := decT lt.2
              have hy := sz_b t.p
              have hkji : (k : Int) < j := by omega
              rw [drop_at ht2, List.all_cons] at hQ
              have cM := fun W hW => meet_any s t W hW (by omega) (by omega)
              cases k3 : aptB s t with
              | false =>
                rw [k3] at cM
                go_wp2_with (go_at_call 63; refine (cM _ (h.up (hE.alloc hE.size _))).mono ?_; rintro _ w2 ⟨rfl, hb2⟩)
                go_ret
                exact ⟨rfl, (hE.alloc hE.size _).trans (hb2.mono (hE.alloc hE.size _).size)⟩
              | true =>
                rw [k3] at cM hQ
                simp only [Bool.true_and] at hQ
                go_wp2_with (go_at_call 63; refine (cM _ (h.up (hE.alloc hE.size _))).mono ?_; rintro _ w2 ⟨rfl, hb2⟩)
                go_roundw
                case rel => exact ⟨k + 1, by omega, by go_num, (hD.alloc (Nat.le_trans (szal _ _) hD.size) _).trans (hb2.mono (Nat.le_trans (Nat.le_trans (szal _ _) hD.size) (al_le _ _))), hQ⟩
                case measure => simp [RowKit.intOf]; omega
            · obtain rfl : k = j := by omega
              rw [List.drop_eq_nil_of_le (by omega)] at hQ
              cases hQ
        | true =>
          rw [k2] at hR
          simp only [Bool.true_and] at hR
          go_wp2_with (go_at_call 62; refine (cL _ (h.up (hB.alloc hB.size _))).mono ?_; rintro _ w1 ⟨rfl, hb⟩)
          have hA := hB.alloc hB.size (.cells #[.int .i64 s.p, .int .i64 s.o] 25)
          have hC : Below (wo.heap.size + 1) (wo.alloc (.cells #[.int .i64 s.p, .int .i64 s.o] 25)) w1 := (Below.refl _ _).trans (hb.mono (szal _ _))
          go_loopw [24] (fun q wq => ∃ k : Nat, k ≤ j ∧ q = .int .i64 k ∧ Below (wo.heap.size + 1) (wo.alloc (.cells #[.int .i64 s.p, .int .i64 s.o] 25)) wq ∧ ((l.take j).drop k).all (aptB s) = true) (fun q _ => j - (RowKit.intOf q).toNat)
          case atStart => exact ⟨0, Nat.zero_le _, rfl, hC, k2⟩
          case round =>
            obtain ⟨k, hk, rfl, hD, hQ⟩ := hrel
            have hE : Below w.heap.size w wr := hA.trans (hD.mono (Nat.le_succ_of_le hB.size))
            by_cases hkj : k < j
            · obtain ⟨t, ht⟩ : ∃ t, l[k]? = some t := ⟨l[k], List.getElem?_eq_getElem (by omega)⟩
              have ht2 : (l.take j)[k]? = some t := by rw [List.getElem?_take, if_pos hkj]; exact ht
              obtain ⟨d0, d1⟩ := (hr.below hg hE).c k t ht
              have hlo : wo.heap.size < wr.heap.size := Nat.lt_of_lt_of_le (szal _ _) hD.size
              have e0 : (wr.alloc (.cells #[.int .i64 t.p, .int .i64 t.o] 25)).cell? ⟨wo.heap.size, 0, none⟩ = some (.int .i64 s.p) := ((bel1 wr _).cell (p := ⟨wo.heap.size, 0, none⟩) hlo).trans (own_cell rfl hD 0)
              have e1 : (wr.alloc (.cells #[.int .i64 t.p, .int .i64 t.o] 25)).cell? ⟨wo.heap.size, 1, none⟩ = some (.int .i64 s.o) := ((bel1 wr _).cell (p := ⟨wo.heap.size, 1, none⟩) hlo).trans (own_cell rfl hD 1)
              have lt := hL t (List.mem_of_getElem? ht2)
              unfold lieB at lt
              rw [Bool.and_eq_true] at lt
              have lt := decT lt.2
              have hy := sz_b t.p
              have hkji : (k : Int) < j := by omega
              rw [drop_at ht2, List.all_cons] at hQ
              have cM := fun W hW => meet_any s t W hW (by omega) (by omega)
              rw [Bool.and_eq_true] at hQ
              rw [hQ.1] at cM
              go_wp2_with (go_at_call 63; refine (cM _ (h.up (hE.alloc hE.size _))).mono ?_; rintro _ w2 ⟨rfl, hb2⟩)
              go_roundw
              case rel => exact ⟨k + 1, by omega, by go_num, (hD.alloc (Nat.le_trans (szal _ _) hD.size) _).trans (hb2.mono (Nat.le_trans (Nat.le_trans (szal _ _) hD.size) (al_le _ _))), hQ.2⟩
              case measure => simp [RowKit.intOf]; omega
            · obtain rfl : k = j := by omega
              rw [List.drop_eq_nil_of_le (by omega)] at hQ
              go_wp2_with fail
              go_roundw
              case rel =>
                refine ⟨k + 1, by omega, by go_num, hE, ?_, ?_⟩
                · intro t ht
                  rw [take_at hs] at ht
                  rcases List.mem_append.1 ht with ht | ht
                  · exact hL t ht
                  · rw [List.mem_singleton.1 ht]; exact k1
                · rw [take_at hs]; exact hR
              case measure => simp [RowKit.intOf]; omega
    · obtain rfl : j = l.length := by omega
      rw [List.drop_length, spOk] at hR
      subst hR
      go_wp2_with fail
      go_ret
      exact ⟨rfl, hB⟩
end Go.Proofs.YtepnmfgbflogkaaDoor
namespace Go.Proofs.YtepnmfgbflogkaaDoor
open Go.ChangeShapes Go.WideShapes Go.ChangeAt Go.RowKit Go.Shelf

structure Hid (p : Prop) : Prop where
  out : p
/-- A token as a value; its words lie somewhere. -/
abbrev tkV (t : Tk) (pc : Option Addr) (cc : Nat) : Value := .agg #[.int .i64 t.op, .string t.name, .int .i64 t.id, .int .i64 t.off, .int .i64 t.siz, .int .i64 t.since, .int .i64 t.prim, .int .i64 t.len, .int .i64 t.pres, .int .u64 t.nul, .int .u64 t.lo, .int .u64 t.hi, .slice pc t.cst.length cc, .int .u64 t.val, .int .i64 t.blk, .int .i64 t.full, .int .i64 t.a.p, .int .i64 t.a.o, .int .i64 t.b.p, .int .i64 t.b.o, .int .i64 t.pair]
def tkC (t : Tk) (pc : Option Addr) (cc : Nat) : List Value := [.int .i64 t.op, .string t.name, .int .i64 t.id, .int .i64 t.off, .int .i64 t.siz, .int .i64 t.since, .int .i64 t.prim, .int .i64 t.len, .int .i64 t.pres, .int .u64 t.nul, .int .u64 t.lo, .int .u64 t.hi, .slice pc t.cst.length cc, .int .u64 t.val, .int .i64 t.blk, .int .i64 t.full, .int .i64 t.a.p, .int .i64 t.a.o, .int .i64 t.b.p, .int .i64 t.b.o, .int .i64 t.pair]
/-- Words in memory. -/
structure URow (w : World) (p : Option Addr) (H : Nat) (l : List Int) : Prop where
  c : ∀ (i : Nat) (t : Int), l[i]? = some t → ∃ g o, p = some ⟨g, o, none⟩ ∧ g < H ∧ w.cell? ⟨g, o + i, none⟩ = some (.int .u64 t)
theorem cell_blk {w w' : World} {g o : Nat} (hb : w'.heap[g]? = w.heap[g]?) : w'.cell? ⟨g, o, none⟩ = w.cell? ⟨g, o, none⟩ := by simp only [World.cell?, hb]
theorem URow.same {w w' : World} {p : Option Addr} {H : Nat} {l : List Int} (h : URow w p H l) (hb : ∀ k, k < H → w'.heap[k]? = w.heap[k]?) : URow w' p H l :=
  ⟨fun i t ht => by
    obtain ⟨g, o, e, hg, h0⟩ := h.c i t ht
    exact ⟨g, o, e, hg, (cell_blk (hb g hg)).trans h0⟩⟩
theorem URow.mono {w : World} {p : Option Addr} {H H' : Nat} {l : List Int} (h : URow w p H l) (hH : H ≤ H') : URow w p H' l :=
  ⟨fun i t ht => by obtain ⟨g, o, e, hg, r⟩ := h.c i t ht; exact ⟨g, o, e, by omega, r⟩⟩
theorem URow.below {w w' : World} {p : Option Addr} {H : Nat} {l : List Int} (h : URow w p H l) (hb : Below H w w') : URow w' p H l := h.same fun k hk => hb.block k hk
theorem URow.nil (w : World) (p : Option Addr) (H : Nat) : URow w p H [] := ⟨fun i t ht => by cases ht⟩
/-- A token's cells in memory. -/
structure TkC (w : World) (g o : Nat) (t : Tk) (pc : Option Addr) (cc : Nat) : Prop where
  c0 : w.cell? ⟨g, o, none⟩ = some (.int .i64 t.op)
  c1 : w.cell? ⟨g, o + 1, none⟩ = some (.string t.name)
  c2 : w.cell? ⟨g, o + 2, none⟩ = some (.int .i64 t.id)
  c3 : w.cell? ⟨g, o + 3, none⟩ = some (.int .i64 t.off)
  c4 : w.cell? ⟨g, o + 4, none⟩ = some (.int .i64 t.siz)
  c5 : w.cell? ⟨g, o + 5, none⟩ = some (.int .i64 t.since)
  c6 : w.cell? ⟨g, o + 6, none⟩ = some (.int .i64 t.prim)
  c7 : w.cell? ⟨g, o + 7, none⟩ = some (.int .i64 t.len)
  c8 : w.cell? ⟨g, o + 8, none⟩ = some (.int .i64 t.pres)
  c9 : w.cell? ⟨g, o + 9, none⟩ = some (.int .u64 t.nul)
  c10 : w.cell? ⟨g, o + 10, none⟩ = some (.int .u64 t.lo)
  c11 : w.cell? ⟨g, o + 11, none⟩ = some (.int .u64 t.hi)
  c12 : w.cell? ⟨g, o + 12, none⟩ = some (.slice pc t.cst.length cc)
  c13 : w.cell? ⟨g, o + 13, none⟩ = some (.int .u64 t.val)
  c14 : w.cell? ⟨g, o + 14, none⟩ = some (.int .i64 t.blk)
  c15 : w.cell? ⟨g, o + 15, none⟩ = some (.int .i64 t.full)
  c16 : w.cell? ⟨g, o + 16, none⟩ = some (.int .i64 t.a.p)
  c17 : w.cell? ⟨g, o + 17, none⟩ = some (.int .i64 t.a.o)
  c18 : w.cell? ⟨g, o + 18, none⟩ = some (.int .i64 t.b.p)
  c19 : w.cell? ⟨g, o + 19, none⟩ = some (.int .i64 t.b.o)
  c20 : w.cell? ⟨g, o + 20, none⟩ = some (.int .i64 t.pair)
theorem TkC.same {w w' : World} {g o : Nat} {t : Tk} {pc : Option Addr} {cc : Nat} (h : TkC w g o t pc cc) (hb : w'.heap[g]? = w.heap[g]?) : TkC w' g o t pc cc :=
  ⟨(cell_blk hb).trans h.c0, (cell_blk hb).trans h.c1, (cell_blk hb).trans h.c2, (cell_blk hb).trans h.c3, (cell_blk hb).trans h.c4, (cell_blk hb).trans h.c5, (cell_blk hb).trans h.c6, (cell_blk hb).trans h.c7, (cell_blk hb).trans h.c8, (cell_blk hb).trans h.c9, (cell_blk hb).trans h.c10, (cell_blk hb).trans h.c11, (cell_blk hb).trans h.c12, (cell_blk hb).trans h.c13, (cell_blk hb).trans h.c14, (cell_blk hb).trans h.c15, (cell_blk hb).trans h.c16, (cell_blk hb).trans h.c17, (cell_blk hb).trans h.c18, (cell_blk hb).trans h.c19, (cell_blk hb).trans h.c20⟩
theorem tkC_of {w : World} {g o : Nat} {t : Tk} {pc : Option Addr} {cc : Nat} (h : ∀ (j : Nat) (u : Value), (tkC t pc cc)[j]? = some u → w.cell? ⟨g, o + j, none⟩ = some u) : TkC w g o t pc cc :=
  ⟨h 0 _ rfl, h 1 _ rfl, h 2 _ rfl, h 3 _ rfl, h 4 _ rfl, h 5 _ rfl, h 6 _ rfl, h 7 _ rfl, h 8 _ rfl, h 9 _ rfl, h 10 _ rfl, h 11 _ rfl, h 12 _ rfl, h 13 _ rfl, h 14 _ rfl, h 15 _ rfl, h 16 _ rfl, h 17 _ rfl, h 18 _ rfl, h 19 _ rfl, h 20 _ rfl⟩
/-- Tokens in memory, ahead of block H. -/
structure TkRow (w : World) (pp : Option Addr) (H : Nat) (l : List Tk) : Prop where
  c : ∀ (i : Nat) (t : Tk), l[i]? = some t → ∃ g o pc cc, pp = some ⟨g, o, none⟩ ∧ g < H ∧ TkC w g (o + i * 21) t pc cc ∧ URow w pc H t.cst ∧ t.cst.length ≤ cc
theorem TkRow.same {w w' : World} {pp : Option Addr} {H : Nat} {l : List Tk} (h : TkRow w pp H l) (hb : ∀ k, k < H → w'.heap[k]? = w.heap[k]?) : TkRow w' pp H l :=
  ⟨fun i t ht => by
    obtain ⟨g, o, pc, cc, e, hg, h0, h1, h2⟩ := h.c i t ht
    exact ⟨g, o, pc, cc, e, hg, h0.same (hb g hg), h1.same hb, h2⟩⟩
theorem TkRow.below {w w' : World} {pp : Option Addr} {H : Nat} {l : List Tk} (h : TkRow w pp H l) (hb : Below H w w') : TkRow w' pp H l := h.same fun k hk => hb.block k hk
theorem TkRow.mono {w : World} {pp : Option Addr} {H H' : Nat} {l : List Tk} (h : TkRow w pp H l) (hH : H ≤ H') : TkRow w pp H' l :=
  ⟨fun i t ht => by obtain ⟨g, o, pc, cc, e, hg, h0, h1, h2⟩ := h.c i t ht; exact ⟨g, o, pc, cc, e, by omega, h0, h1.mono hH, h2⟩⟩
/-- Of numbers that fit. -/
structure TkOk (t : Tk) : Prop where
  op : i64ok t.op
  name : t.name.size ≤ 281474976710656
  id : i64ok t.id
  off : i64ok t.off
  siz : i64ok t.siz
  since : i64ok t.since
  prim : i64ok t.prim
  len : i64ok t.len
  pres : i64ok t.pres
  nul : u64ok t.nul
  lo : u64ok t.lo
  hi : u64ok t.hi
  cst : t.cst.length * 8 ≤ 140737488355328
  cs : ∀ x ∈ t.cst, u64ok x
  val : u64ok t.val
  blk : i64ok t.blk
  full : i64ok t.full
  ap : i64ok t.a.p
  ao : i64ok t.a.o
  bp : i64ok t.b.p
  bo : i64ok t.b.o
  pair : i64ok t.pair
/-- Tokens as they are handed over. -/
structure TkL (w : World) (pp : Option Addr) (H : Nat) (l : List Tk) : Prop where
  row : TkRow w pp H l
  len : l.length * 192 ≤ 140737488355328
  ok : ∀ t ∈ l, TkOk t
theorem TkL.below {w w' : World} {pp : Option Addr} {H : Nat} {l : List Tk} (h : TkL w pp H l) (hb : Below H w w') : TkL w' pp H l := ⟨h.row.below hb, h.len, h.ok⟩
theorem TkL.mono {w : World} {pp : Option Addr} {H H' : Nat} {l : List Tk} (h : TkL w pp H l) (hH : H ≤ H') : TkL w pp H' l := ⟨h.row.mono hH, h.len, h.ok⟩
theorem TkL.at {w : World} {pp : Option Addr} {H : Nat} {l : List Tk} (h : TkL w pp H l) {i : Nat} {t : Tk} (hi : l[i]? = some t) : ∃ g o pc cc, pp = some ⟨g, o, none⟩ ∧ g < H ∧ TkC w g (o + i * 21) t pc cc ∧ URow w pc H t.cst ∧ t.cst.length ≤ cc ∧ TkOk t := by
  obtain ⟨g, o, pc, cc, e, hg, h0, h1, h2⟩ := h.row.c i t hi
  exact ⟨g, o, pc, cc, e, hg, h0, h1, h2, h.ok t (List.mem_of_getElem? hi)⟩
/-- A form as a value. -/
abbrev fmV (f : Fm) (pp : Option Addr) (cp : Nat) : Value := .agg #[.int .i64 f.ord, .int .i64 f.sch, .int .i64 f.ver, .int .i64 f.hsz, .int .i64 f.hb.p, .int .i64 f.hb.o, .int .i64 f.ht.p, .int .i64 f.ht.o, .int .i64 f.hs.p, .int .i64 f.hs.o, .int .i64 f.hv.p, .int .i64 f.hv.o, .slice pp f.toks.length cp]
abbrev fmO (f : Fm) (pp : Option Addr) (cp : Nat) : Obj := .cells #[.int .i64 f.ord, .int .i64 f.sch, .int .i64 f.ver, .int .i64 f.hsz, .int .i64 f.hb.p, .int .i64 f.hb.o, .int .i64 f.ht.p, .int .i64 f.ht.o, .int .i64 f.hs.p, .int .i64 f.hs.o, .int .i64 f.hv.p, .int .i64 f.hv.o, .slice pp f.toks.length cp] 30
/-- A form's cells in memory. -/
structure FmC (w : World) (g o : Nat) (f : Fm) (pp : Option Addr) (cp : Nat) : Prop where
  c0 : w.cell? ⟨g, o, none⟩ = some (.int .i64 f.ord)
  c1 : w.cell? ⟨g, o + 1, none⟩ = some (.int .i64 f.sch)
  c2 : w.cell? ⟨g, o + 2, none⟩ = some (.int .i64 f.ver)
  c3 : w.cell? ⟨g, o + 3, none⟩ = some (.int .i64 f.hsz)
  c4 : w.cell? ⟨g, o + 4, none⟩ = some (.int .i64 f.hb.p)
  c5 : w.cell? ⟨g, o + 5, none⟩ = some (.int .i64 f.hb.o)
  c6 : w.cell? ⟨g, o + 6, none⟩ = some (.int .i64 f.ht.p)
  c7 : w.cell? ⟨g, o + 7, none⟩ = some (.int .i64 f.ht.o)
  c8 : w.cell? ⟨g, o + 8, none⟩ = some (.int .i64 f.hs.p)
  c9 : w.cell? ⟨g, o + 9, none⟩ = some (.int .i64 f.hs.o)
  c10 : w.cell? ⟨g, o + 10, none⟩ = some (.int .i64 f.hv.p)
  c11 : w.cell? ⟨g, o + 11, none⟩ = some (.int .i64 f.hv.o)
  c12 : w.cell? ⟨g, o + 12, none⟩ = some (.slice pp f.toks.length cp)
theorem FmC.same {w w' : World} {g o : Nat} {f : Fm} {pp : Option Addr} {cp : Nat} (h : FmC w g o f pp cp) (hb : w'.heap[g]? = w.heap[g]?) : FmC w' g o f pp cp :=
  ⟨(cell_blk hb).trans h.c0, (cell_blk hb).trans h.c1, (cell_blk hb).trans h.c2, (cell_blk hb).trans h.c3, (cell_blk hb).trans h.c4, (cell_blk hb).trans h.c5, (cell_blk hb).trans h.c6, (cell_blk hb).trans h.c7, (cell_blk hb).trans h.c8, (cell_blk hb).trans h.c9, (cell_blk hb).trans h.c10, (cell_blk hb).trans h.c11, (cell_blk hb).trans h.c12⟩
theorem FmC.below {w w' : World} {g o B : Nat} {f : Fm} {pp : Option Addr} {cp : Nat} (h : FmC w g o f pp cp) (hg : g < B) (hb : Below B w w') : FmC w' g o f pp cp := h.same (hb.block g hg)
theorem TkC.below {w w' : World} {g o B : Nat} {t : Tk} {pc : Option Addr} {cc : Nat} (h : TkC w g o t pc cc) (hg : g < B) (hb : Below B w w') : TkC w' g o t pc cc := h.same (hb.block g hg)
structure SpOk (s : Sp) : Prop where
  p : i64ok s.p
  o : i64ok s.o
/-- Numbers that fit. -/
structure FmOk (f : Fm) : Prop where
  ord : i64ok f.ord
  sch : i64ok f.sch
  ver : i64ok f.ver
  hsz : i64ok f.hsz
  hb : SpOk f.hb
  ht : SpOk f.ht
  hs : SpOk f.hs
  hv : SpOk f.hv
theorem fm_new (w : World) (f : Fm) (pp : Option Addr) (cp : Nat) : FmC (w.alloc (fmO f pp cp)) w.heap.size 0 f pp cp :=
  ⟨cell_at (heap_al _ _) 0, cell_at (heap_al _ _) 1, cell_at (heap_al _ _) 2, cell_at (heap_al _ _) 3, cell_at (heap_al _ _) 4, cell_at (heap_al _ _) 5, cell_at (heap_al _ _) 6, cell_at (heap_al _ _) 7, cell_at (heap_al _ _) 8, cell_at (heap_al _ _) 9, cell_at (heap_al _ _) 10, cell_at (heap_al _ _) 11, cell_at (heap_al _ _) 12⟩
end Go.Proofs.YtepnmfgbflogkaaDoor
namespace Go.Proofs.YtepnmfgbflogkaaDoor
open Go.ChangeShapes Go.WideShapes Go.ChangeAt Go.RowKit Go.Shelf Go.Maps

theorem laidOut : laidOutB Tryd.prog = true := by kernel_rfl
theorem lawI : Keyed Tryd.prog 3 := int_keyed Tryd.underlying3
theorem lawN : Keyed Tryd.prog 147 := Keyed.of_law (deep_law_laid laidOut (m := 3) (by omega) (of_decide_eq_true (by kernel_rfl)) (by kernel_rfl) (by kernel_rfl))
theorem lawV : Keyed Tryd.prog 131 := Keyed.of_law (deep_law_laid laidOut (m := 3) (by omega) (of_decide_eq_true (by kernel_rfl)) (by kernel_rfl) (by kernel_rfl))
theorem zeroI (w : World) : (zeroValue 3).run Tryd.prog w = .ok (.int .i64 0) w := by kernel_rfl
/-- Block m is a map of at most n entries that holds just the keys hs. -/
def MHas (W : World) (k : TypeId) (m n : Nat) (hs : Value → Prop) : Prop := ∃ D : DataW Unit, W.ownsMap Tryd.prog k (plainElem Tryd.prog 3) m n D ∧ ∀ v kl, keyOf Tryd.prog k v = some kl → (Maps.has D kl = true ↔ hs v)
theorem MHas.same {W W' : World} {k : TypeId} {m n : Nat} {hs : Value → Prop} (h : MHas W k m n hs) (hb : W'.heap[m]? = W.heap[m]?) : MHas W' k m n hs := by
  obtain ⟨D, ⟨es, ck, e, r⟩, h2⟩ := h
  exact ⟨D, ⟨es, ck, hb.trans e, r⟩, h2⟩
theorem MHas.lt {W : World} {k : TypeId} {m n : Nat} {hs : Value → Prop} (h : MHas W k m n hs) : m < W.heap.size := by
  obtain ⟨D, h1, h2⟩ := h
  exact h1.lt
theorem has_nil (kl : Lit) : Maps.has (DataW.map [] : DataW Unit) kl = false := rfl
theorem MHas.made (w : World) (k : TypeId) : MHas (w.alloc (.map #[] 0)) k w.heap.size 0 (fun _ => False) :=
  ⟨_, World.ownsMap_made w _ _ _, fun v kl _ => by rw [has_nil]; simp⟩
theorem MHas.put {W W' : World} {k : TypeId} {m n : Nat} {hs : Value → Prop} (K : Keyed Tryd.prog k) {D : DataW Unit} (hD : W.ownsMap Tryd.prog k (plainElem Tryd.prog 3) m n D) (h : ∀ v kl, keyOf Tryd.prog k v = some kl → (Maps.has D kl = true ↔ hs v)) {v0 : Value} {k0 : Lit} (hk : keyOf Tryd.prog k v0 = some k0) {d : DataW Unit} (h' : W'.ownsMap Tryd.prog k (plainElem Tryd.prog 3) m (n + 1) (D.put k0 d)) :
    MHas W' k m (n + 1) (fun v => v = v0 ∨ hs v) := by
  refine ⟨_, h', fun v kl hv => ?_⟩
  by_cases e : kl = k0
  · subst e
    rw [has_put_same hD.isMap (K.key hk)]
    have := K.inj hv hk
    simp [this]
  · rw [has_put_other e, h v kl hv]
    constructor
    · exact .inr
    · rintro (rfl | h)
      · rw [hk] at hv; cases hv; exact absurd rfl e
      · exact h
/-- Every block but m stands. -/
theorem isNewI_any (m n : Nat) (x i : Int) (hs : Value → Prop) (b : Bool) (w : World) (hM : MHas w 3 m n hs) (hn : n < 17592186044416) (hx : i64ok x) (hi : i64ok i) (hb : b = true ↔ ¬ hs (.int .i64 x)) :
    Calls Tryd.prog 85 #[.map (some m), .int .i64 x, .int .i64 i] w fun r w' => r = .returned (.bool b) ∧ MHas w' 3 m (n + 1) (fun v => v = .int .i64 x ∨ hs v) ∧ w.grownBy w' (some m) := by
  obtain ⟨D, hD, hh⟩ := hM
  have hkey : keyOf Tryd.prog 3 (.int .i64 x) = some (.int .i64 x) := keyOf_int_mk Tryd.underlying3 (WalkArith.wf_i64 hx)
  have e : Maps.has D (.int .i64 x) = !b := by
    have := hh _ _ hkey
    cases b <;> simp_all
  go_enter Tryd.func85, Tryd.ntmps85
  go_wp2_with (first | (at_lookup; refine wpList_lookup_own_ok_int _ rfl _ _ 100 rfl 3 3 .i64 lawI Tryd.underlying100 Tryd.underlying3 (zeroI _) m n D rfl hD _ _ rfl hkey ?_; intro c hat hwc) | (at_mapUpdate; refine wpList_mapUpdate_own _ rfl _ _ _ 100 rfl 3 3 lawI Tryd.underlying100 _ m n D rfl hD (by unfold maxLen; omega) _ _ _ rfl rfl hkey _ [] (plainElem_int Tryd.underlying3 (WalkArith.wf_i64 hi)) ?_; intro w1 hown1 hturn1))
  go_ret
  exact ⟨rfl, MHas.put lawI hD hh hkey hown1, hturn1⟩
theorem tySize : ∃ m, Tryd.prog.types.size = m + 1 := ⟨Tryd.prog.types.size - 1, by kernel_rfl⟩
theorem ktN : Tryd.prog.keyType 147 = true := by kernel_rfl
theorem ktV : Tryd.prog.keyType 131 = true := by kernel_rfl
theorem clN : Tryd.prog.cellsOf 147 = 2 := by kernel_rfl
theorem clV : Tryd.prog.cellsOf 131 = 2 := by kernel_rfl
theorem clI : Tryd.prog.cellsOf 3 = 1 := by kernel_rfl
theorem clS : Tryd.prog.cellsOf 9 = 1 := by kernel_rfl
theorem clU : Tryd.prog.cellsOf 39 = 1 := by kernel_rfl
theorem keyN (a : Int) (s : ByteArray) (ha : i64ok a) (hs : s.size ≤ maxLen) : ∃ kl, keyOf Tryd.prog 147 (.agg #[.int .i64 a, .string s]) = some kl := by
  obtain ⟨m, hm⟩ := tySize
  have wa : (Lit.int .i64 a).wf = true := WalkArith.wf_i64 ha
  have hf : (Value.agg #[.int .i64 a, .string s]).formed Tryd.prog 147 = true := by simp [Value.formed, Tryd.underlying147, clN]
  unfold keyOf
  rw [Tryd.underlying147]
  simp only [ktN, hf, Bool.and_self, if_true, Value.cells]
  rw [hm]
  simp [Program.keyLits, Tryd.underlying147, Tryd.underlying3, Tryd.underlying9, clN, clI, clS, wa, hs]
theorem keyV (a b : Int) (ha : i64ok a) (hb : u64ok b) : ∃ kl, keyOf Tryd.prog 131 (.agg #[.int .i64 a, .int .u64 b]) = some kl := by
  obtain ⟨m, hm⟩ := tySize
  have wa : (Lit.int .i64 a).wf = true := WalkArith.wf_i64 ha
  have wb : (Lit.int .u64 b).wf = true := WalkArith.wf_u64 hb
  have hf : (Value.agg #[.int .i64 a, .int .u64 b]).formed Tryd.prog 131 = true := by simp [Value.formed, Tryd.underlying131, clV]
  unfold keyOf
  rw [Tryd.underlying131]
  simp only [ktV, hf, Bool.and_self, if_true, Value.cells]
  rw [hm]
  simp [Program.keyLits, Tryd.underlying131, Tryd.underlying3, Tryd.underlying39, clV, clI, clU, wa, wb]
theorem isNewN_any (m n : Nat) (a i : Int) (s : ByteArray) (hs : Value → Prop) (b : Bool) (w : World) (hM : MHas w 147 m n hs) (hn : n < 17592186044416) (ha : i64ok a) (hl : s.size ≤ maxLen) (hi : i64ok i) (hb : b = true ↔ ¬ hs (.agg #[.int .i64 a, .string s])) :
    Calls Tryd.prog 86 #[.map (some m), .agg #[.int .i64 a, .string s], .int .i64 i] w fun r w' => r = .returned (.bool b) ∧ MHas w' 147 m (n + 1) (fun v => v = .agg #[.int .i64 a, .string s] ∨ hs v) ∧ w.grownBy w' (some m) := by
  obtain ⟨D, hD, hh⟩ := hM
  obtain ⟨kl, hkey⟩ := keyN a s ha hl
  have e : Maps.has D kl = !b := by
    have := hh _ _ hkey
    cases b <;> simp_all
  go_enter Tryd.func86, Tryd.ntmps86
  go_wp2_with (first | (at_lookup; refine wpList_lookup_own_ok_int _ rfl _ _ 101 rfl 147 3 .i64 lawN Tryd.underlying101 Tryd.underlying3 (zeroI _) m n D rfl (hD.alloc _) _ _ rfl hkey ?_; intro c hat hwc) | (at_mapUpdate; refine wpList_mapUpdate_own _ rfl _ _ _ 101 rfl 147 3 lawN Tryd.underlying101 _ m n D rfl (hD.alloc _) (by unfold maxLen; omega) _ _ _ rfl rfl hkey _ [] (plainElem_int Tryd.underlying3 (WalkArith.wf_i64 hi)) ?_; intro w1 hown1 hturn1))
  go_ret
  exact ⟨rfl, MHas.put lawN hD hh hkey hown1, (World.grownBy_alloc w _ _).trans hturn1⟩
theorem isNewV_any (m n : Nat) (a i x : Int) (hs : Value → Prop) (b : Bool) (w : World) (hM : MHas w 131 m n hs) (hn : n < 17592186044416) (ha : i64ok a) (hx : u64ok x) (hi : i64ok i) (hb : b = true ↔ ¬ hs (.agg #[.int .i64 a, .int .u64 x])) :
    Calls Tryd.prog 75 #[.map (some m), .agg #[.int .i64 a, .int .u64 x], .int .i64 i] w fun r w' => r = .returned (.bool b) ∧ MHas w' 131 m (n + 1) (fun v => v = .agg #[.int .i64 a, .int .u64 x] ∨ hs v) ∧ w.grownBy w' (some m) := by
  obtain ⟨D, hD, hh⟩ := hM
  obtain ⟨kl, hkey⟩ := keyV a x ha hx
  have e : Maps.has D kl = !b := by
    have := hh _ _ hkey
    cases b <;> simp_all
  go_enter Tryd.func75, Tryd.ntmps75
  go_wp2_with (first | (at_lookup; refine wpList_lookup_own_ok_int _ rfl _ _ 102 rfl 131 3 .i64 lawV Tryd.underlying102 Tryd.underlying3 (zeroI _) m n D rfl (hD.alloc _) _ _ rfl hkey ?_; intro c hat hwc) | (at_mapUpdate; refine wpList_mapUpdate_own _ rfl _ _ _ 102 rfl 131 3 lawV Tryd.underlying102 _ m n D rfl (hD.alloc _) (by unfold maxLen; omega) _ _ _ rfl rfl hkey _ [] (plainElem_int Tryd.underlying3 (WalkArith.wf_i64 hi)) ?_; intro w1 hown1 hturn1))
  go_ret
  exact ⟨rfl, MHas.put lawV hD hh hkey hown1, (World.grownBy_alloc w _ _).trans hturn1⟩
end Go.Proofs.YtepnmfgbflogkaaDoor
namespace Go.Proofs.YtepnmfgbflogkaaDoor
open Go.ChangeShapes Go.WideShapes Go.ChangeAt Go.RowKit

theorem pick_map (l : List Oper) : ∀ sc : List Nat, sc.all (fun i => decide (i < l.length)) = true → sc.map (fun i => l.toArray[i]?) = (sc.filterMap fun i => l[i]?).map some
  | [], _ => rfl
  | i :: r, h => by
    rw [List.all_cons, Bool.and_eq_true, decide_eq_true_eq] at h
    rw [List.map_cons, List.filterMap_cons, List.getElem?_eq_getElem h.1, pick_map l r h.2]
    simp [h.1]
theorem wp_region_pp {P : Program} {Q : Exit → Act → World → Prop} {id : Nat} {a : Act} {w : World} {l : List Oper} (p : World → Prop) (sc : List Nat) (hm : P.follows .mixedOrders = true) (hv : (Region.noSelect l.toArray && schB .any l.toArray sc (Array.replicate l.length false) && (sc.length == l.length) && sc.all (fun i => decide (i < l.length))) = true)
    (hQ : ∀ c (a : Act) d v w, Q (.panic c) (a.put d v) w → Q (.panic c) a w) (hp : p w.drew) (h : Lx P l.toArray (fun W => ∃ θ : CW p, W = θ.w) Q (sc.filterMap fun i => l[i]?) a w.drew) : (Code.region id l.toArray true).wp P Q a w := by
  rw [Bool.and_eq_true] at hv
  exact wp_region_px p sc _ (pick_map l sc hv.2) hm hv.1 hQ hp h
end Go.Proofs.YtepnmfgbflogkaaDoor
namespace Go.Proofs.YtepnmfgbflogkaaDoor
open Go.ChangeShapes Go.WideShapes Go.ChangeAt Go.RowKit Go.Shelf Go.Maps

/-- Every block of w but those of E stands. -/
structure Kb (E : List Nat) (w W : World) : Prop where
  os : W.os = w.os
  tape : W.tape = w.tape
  output : W.output = w.output
  size : w.heap.size ≤ W.heap.size
  block : ∀ k, k < w.heap.size → k ∉ E → W.heap[k]? = w.heap[k]?
theorem Kb.refl (E : List Nat) (w : World) : Kb E w w := ⟨rfl, rfl, rfl, Nat.le_refl _, fun _ _ _ => rfl⟩
theorem Kb.trans {E : List Nat} {a b c : World} (h : Kb E a b) (h' : Kb E b c) : Kb E a c :=
  ⟨h'.os.trans h.os, h'.tape.trans h.tape, h'.output.trans h.output, Nat.le_trans h.size h'.size, fun k hk he => (h'.block k (Nat.lt_of_lt_of_le hk h.size) he).trans (h.block k hk he)⟩
theorem Kb.mono {E E' : List Nat} {a b : World} (h : Kb E a b) (hE : ∀ x ∈ E, x ∈ E') : Kb E' a b := ⟨h.os, h.tape, h.output, h.size, fun k hk he => h.block k hk fun hx => he (hE k hx)⟩
theorem Kb.of_below {E : List Nat} {a b : World} (h : Below a.heap.size a b) : Kb E a b := ⟨h.os, h.tape, h.output, h.size, fun k hk _ => h.block k hk⟩
theorem Kb.of_grown {E : List Nat} {a b : World} {m : Nat} (h : a.grownBy b (some m)) (hm : m ∈ E) : Kb E a b := ⟨h.os, h.tape, h.output, h.size, fun k hk he => h.block k hk fun e => he (by cases e; exact hm)⟩
theorem Kb.drew {E : List Nat} {a b : World} (h : Kb E a b) : Kb E a b.drew := ⟨h.os, h.tape, h.output, h.size, h.block⟩
theorem Kb.alloc {E : List Nat} {a b : World} (h : Kb E a b) (o : Obj) : Kb E a (b.alloc o) := h.trans (Kb.of_below (bel1 _ _))
theorem Kb.set {E : List Nat} {a b : World} (h : Kb E a b) {g o : Nat} (hg : g ∈ E) (v : Value) : Kb E a (b.setCell ⟨g, o, none⟩ v) := by
  refine ⟨h.os, h.tape, h.output, ?_, fun k hk he => ?_⟩
  · show a.heap.size ≤ (b.heap.modify g _).size
    rw [Array.size_modify]; exact h.size
  · show (b.heap.modify g _)[k]? = _
    rw [Array.getElem?_modify, if_neg (fun e => he (by subst e; exact hg))]
    exact h.block k hk he
theorem Kb.below {E : List Nat} {a b : World} {B : Nat} (h : Kb E a b) (hB : B ≤ a.heap.size) (hE : ∀ x ∈ E, B ≤ x) : Below B a b := ⟨h.os, h.tape, h.output, h.size, fun k hk => h.block k (by omega) fun hx => by have := hE k hx; omega⟩
theorem Kb.cell {E : List Nat} {a b : World} (h : Kb E a b) {g o : Nat} (hg : g < a.heap.size) (hE : g ∉ E) : b.cell? ⟨g, o, none⟩ = a.cell? ⟨g, o, none⟩ := cell_blk (h.block g hg hE)
theorem Kb0 {w W : World} (h : Kb [] w W) : Below w.heap.size w W := ⟨h.os, h.tape, h.output, h.size, fun k hk => h.block k hk List.not_mem_nil⟩
theorem tdr1 {B : Nat} {a w : World} (h : Below B a w) : Below B a w.drew := ⟨h.os, h.tape, h.output, h.size, h.block⟩
/-- What is open, as the program has it. -/
structure Sv where
  at_ : Nat
  cnt : Int
  last : Int
  fld : Int
  row : Int
  en : Int
  cod : Int
def svC (g o : Nat) (s : Sv) : List Value := [.pointer (some ⟨g, o + s.at_ * 21, none⟩), .int .i64 (s.at_ : Int), .int .i64 s.cnt, .int .i64 s.last, .int .i64 s.fld, .int .i64 s.row, .int .i64 s.en, .int .i64 s.cod]
def svCs (g o : Nat) (l : List Sv) : List Value := l.flatMap (svC g o)
theorem svCs_length (g o : Nat) (l : List Sv) : (svCs g o l).length = l.length * 8 := by
  induction l with
  | nil => rfl
  | cons a r ih =>
    unfold svCs at ih ⊢
    rw [List.flatMap_cons, List.length_append, ih, List.length_cons]
    show 8 + _ = _
    omega
theorem svCs_append (g o : Nat) (a b : List Sv) : svCs g o (a ++ b) = svCs g o a ++ svCs g o b := by unfold svCs; rw [List.flatMap_append]
/-- The cells of the last that is open. -/
structure ScC (w : World) (g o go k : Nat) (x : Sv) : Prop where
  c0 : w.cell? ⟨go, k, none⟩ = some (.pointer (some ⟨g, o + x.at_ * 21, none⟩))
  c1 : w.cell? ⟨go, k + 1, none⟩ = some (.int .i64 (x.at_ : Int))
  c2 : w.cell? ⟨go, k + 2, none⟩ = some (.int .i64 x.cnt)
  c3 : w.cell? ⟨go, k + 3, none⟩ = some (.int .i64 x.last)
  c4 : w.cell? ⟨go, k + 4, none⟩ = some (.int .i64 x.fld)
  c5 : w.cell? ⟨go, k + 5, none⟩ = some (.int .i64 x.row)
  c6 : w.cell? ⟨go, k + 6, none⟩ = some (.int .i64 x.en)
  c7 : w.cell? ⟨go, k + 7, none⟩ = some (.int .i64 x.cod)
/-- The row of what is open, in block go. -/
structure OpR (w : World) (g o go cap : Nat) (l : List Sv) : Prop where
  ex : ∃ cur : Array Value, w.heap[go]? = some (.cells cur 117 (0, 0)) ∧ l.length ≤ cap ∧ cap ≤ maxLen ∧ cur.size = cap * 8 ∧ cur.toList.take (l.length * 8) = svCs g o l
theorem OpR.same {w w' : World} {g o go cap : Nat} {l : List Sv} (h : OpR w g o go cap l) (hb : w'.heap[go]? = w.heap[go]?) : OpR w' g o go cap l := by
  obtain ⟨cur, h1, r⟩ := h.ex
  exact ⟨cur, hb.trans h1, r⟩
theorem OpR.lt {w : World} {g o go cap : Nat} {l : List Sv} (h : OpR w g o go cap l) : go < w.heap.size := by
  obtain ⟨cur, h1, _⟩ := h.ex
  exact (Array.getElem?_eq_some_iff.1 h1).1
theorem OpR.owns {w : World} {g o go cap : Nat} {l : List Sv} (h : OpR w g o go cap l) {base : Nat} (hb : base ≤ go) : w.ownsRow base 117 8 (.slice (some ⟨go, 0, none⟩) l.length cap) l.length (svCs g o l) := by
  obtain ⟨cur, h1, h2, h3, h4, h5⟩ := h.ex
  exact ⟨svCs_length g o l, .inr ⟨go, cap, cur, rfl, hb, h1, h2, h3, h4, h5⟩⟩
theorem OpR.cell {w : World} {g o go cap : Nat} {l : List Sv} (h : OpR w g o go cap l) {j : Nat} {u : Value} (hu : (svCs g o l)[j]? = some u) : w.cell? ⟨go, j, none⟩ = some u := by
  obtain ⟨cur, h1, h2, h3, h4, h5⟩ := h.ex
  rw [← h5, List.getElem?_take] at hu
  split at hu
  · simp only [World.cell?, h1]
    simpa using hu
  · cases hu
theorem svCs_last (g o : Nat) (L : List Sv) (x : Sv) (j : Nat) (hj : j < 8) : (svCs g o (L ++ [x]))[L.length * 8 + j]? = (svC g o x)[j]? := by
  rw [svCs_append, List.getElem?_append_right (by rw [svCs_length]; omega), svCs_length]
  rw [show L.length * 8 + j - L.length * 8 = j by omega]
  unfold svCs
  rw [List.flatMap_cons, List.flatMap_nil, List.append_nil]
theorem OpR.last {w : World} {g o go cap : Nat} {L : List Sv} {x : Sv} (h : OpR w g o go cap (L ++ [x])) : ScC w g o go (L.length * 8) x :=
  have c := fun j u (hj : j < 8) (hu : (svC g o x)[j]? = some u) => h.cell ((svCs_last g o L x j hj).trans hu)
  ⟨c 0 _ (by decide) rfl, c 1 _ (by decide) rfl, c 2 _ (by decide) rfl, c 3 _ (by decide) rfl, c 4 _ (by decide) rfl, c 5 _ (by decide) rfl, c 6 _ (by decide) rfl, c 7 _ (by decide) rfl⟩
/-- One cell of the last written. -/
theorem OpR.set {w : World} {g o go cap : Nat} {L : List Sv} {x x' : Sv} {j : Nat} {v : Value} (h : OpR w g o go cap (L ++ [x])) (hj : j < 8) (hx : svC g o x' = (svC g o x).set j v) : OpR (w.setCell ⟨go, L.length * 8 + j, none⟩ v) g o go cap (L ++ [x']) := by
  obtain ⟨cur, h1, h2, h3, h4, h5⟩ := h.ex
  have hl : (L ++ [x]).length = (L ++ [x']).length := by simp
  have hx8 : (svC g o x).length = 8 := rfl
  refine ⟨cur.setIfInBounds (L.length * 8 + j) v, ?_, by rw [← hl]; exact h2, h3, by rw [Array.size_setIfInBounds]; exact h4, ?_⟩
  · show (w.heap.modify go _)[go]? = _
    rw [Array.getElem?_modify, if_pos rfl, h1]
    rfl
  · rw [Array.toList_setIfInBounds, List.take_set, ← hl, h5, svCs_append, svCs_append, List.set_append_right _ _ (by rw [svCs_length]; omega), svCs_length]
    rw [show L.length * 8 + j - L.length * 8 = j by omega]
    congr 1
    unfold svCs
    rw [List.flatMap_cons, List.flatMap_nil, List.append_nil, List.flatMap_cons, List.flatMap_nil, List.append_nil, hx]
theorem tdr {B n : Nat} {a w : World} (h : Below B a w) : Below B a (w.drewN n) := ⟨h.os, h.tape, h.output, h.size, h.block⟩
theorem top_any (B go n cap : Nat) (w : World) (hc : w.cell? ⟨B, 0, none⟩ = some (.slice (some ⟨go, 0, none⟩) (n + 1) cap)) (hn : n < 1000000000000) :
    Calls Tryd.prog 59 #[.pointer (some ⟨B, 0, none⟩)] w fun r w' => r = .returned (.pointer (some ⟨go, n * 8, none⟩)) ∧ Below w.heap.size w w' := by
  have e1 : ((n + 1 : Nat) : Int) - 1 = (n : Int) := by omega
  have e2 : (n : Int) < ((n + 1 : Nat) : Int) := by omega
  go_enter Tryd.func59, Tryd.ntmps59
  go_wp2_with fail
  go_quiet (fail)
  go_wp2_with fail
  go_ret
  exact ⟨rfl, tdr (Below.refl _ _)⟩
theorem isEmpty_any (B n cap : Nat) (p : Option Addr) (w : World) (hc : w.cell? ⟨B, 0, none⟩ = some (.slice p n cap)) :
    Calls Tryd.prog 58 #[.pointer (some ⟨B, 0, none⟩)] w fun r w' => r = .returned (.bool (decide (n = 0))) ∧ w' = w := by
  go_enter Tryd.func58, Tryd.ntmps58
  go_wp2_with fail
  go_ret
  exact ⟨rb (by rw [Bool.eq_iff_iff]; simp), rfl⟩
/-- The checker's cells. -/
structure CkC (w : World) (B gf : Nat) (op : Value) (i : Int) (rl : Value) (m1 m2 m3 : Nat) (dep : Nat → Int) (wh : Bool) : Prop where
  lt : B < w.heap.size
  c0 : w.cell? ⟨B, 0, none⟩ = some op
  c1 : w.cell? ⟨B, 1, none⟩ = some (.pointer (some ⟨gf, 0, none⟩))
  c2 : w.cell? ⟨B, 2, none⟩ = some (.int .i64 i)
  c3 : w.cell? ⟨B, 3, none⟩ = some rl
  cd : ∀ q, q < 16 → w.cell? ⟨B, 4 + q, none⟩ = some (.int .i64 (dep q))
  c20 : w.cell? ⟨B, 20, none⟩ = some (.map (some m1))
  c21 : w.cell? ⟨B, 21, none⟩ = some (.map (some m2))
  c22 : w.cell? ⟨B, 22, none⟩ = some (.map (some m3))
  c23 : w.cell? ⟨B, 23, none⟩ = some (.bool wh)
theorem CkC.same {w w' : World} {B gf : Nat} {op : Value} {i : Int} {rl : Value} {m1 m2 m3 : Nat} {dep : Nat → Int} {wh : Bool} (h : CkC w B gf op i rl m1 m2 m3 dep wh) (hs : w.heap.size ≤ w'.heap.size) (hb : w'.heap[B]? = w.heap[B]?) : CkC w' B gf op i rl m1 m2 m3 dep wh :=
  ⟨Nat.lt_of_lt_of_le h.lt hs, (cell_blk hb).trans h.c0, (cell_blk hb).trans h.c1, (cell_blk hb).trans h.c2, (cell_blk hb).trans h.c3, fun q hq => (cell_blk hb).trans (h.cd q hq), (cell_blk hb).trans h.c20, (cell_blk hb).trans h.c21, (cell_blk hb).trans h.c22, (cell_blk hb).trans h.c23⟩
theorem ScC.same {w w' : World} {g o go k : Nat} {x : Sv} (h : ScC w g o go k x) (hb : w'.heap[go]? = w.heap[go]?) : ScC w' g o go k x :=
  ⟨(cell_blk hb).trans h.c0, (cell_blk hb).trans h.c1, (cell_blk hb).trans h.c2, (cell_blk hb).trans h.c3, (cell_blk hb).trans h.c4, (cell_blk hb).trans h.c5, (cell_blk hb).trans h.c6, (cell_blk hb).trans h.c7⟩
end Go.Proofs.YtepnmfgbflogkaaDoor

/- LookPaths: what stands while the law plays. -/
import Derived.Test.YtfikmlckcbnppaaDoorLpZ
namespace Go.Proofs.YtfikmlckcbnppaaDoor
open Go.ChangeShapes Go.WideShapes Go.ChangeAt Go.RowKit Go.Shelf Go.Maps

/-- The three answers of Path, the copy of the asked steps. -/
structure Lk (w0 : World) (l L : List (ByteArray × Int)) (p1 : Option Addr) (c1 : Nat) (p3 : Option Addr) (c3 : Nat) (p4 : Option Addr) (c4 : Nat) (g1 k1 g2 k2 g3 k3 g4 k4 y B2 B3 B4 : Nat) (W : World) : Prop where
  b : Below w0.heap.size w0 W
  r1 : StR W w0.heap.size (.slice p1 L.length c1) L
  r3 : StR W B2 (.slice p3 L.length c3) L
  r4 : StR W B3 (.slice p4 L.length c4) L
  oA : OwnA W B4 l g1 k1 g2 k2 g3 k3 g4 k4
  yb : W.heap[y]? = some (aqO (.slice (some ⟨g1, 0, none⟩) 0 k1) (.slice (some ⟨g2, 0, none⟩) 0 k2) (.slice (some ⟨g3, 0, none⟩) l.length k3) (.slice (some ⟨g4, 0, none⟩) 0 k4))
  s2 : w0.heap.size ≤ B2
  d1 : ∀ k, (Value.slice p1 L.length c1).ownBlock = some k → k < B2
  d3 : ∀ k, (Value.slice p3 L.length c3).ownBlock = some k → k < B3
theorem Lk.below {w0 : World} {l L : List (ByteArray × Int)} {p1 : Option Addr} {c1 : Nat} {p3 : Option Addr} {c3 : Nat} {p4 : Option Addr} {c4 : Nat} {g1 k1 g2 k2 g3 k3 g4 k4 y B2 B3 B4 : Nat} {W W' : World} (h : Lk w0 l L p1 c1 p3 c3 p4 c4 g1 k1 g2 k2 g3 k3 g4 k4 y B2 B3 B4 W) (hb : Below W.heap.size W W') : Lk w0 l L p1 c1 p3 c3 p4 c4 g1 k1 g2 k2 g3 k3 g4 k4 y B2 B3 B4 W' :=
  ⟨h.b.trans (hb.mono h.b.size), h.r1.below hb, h.r3.below hb, h.r4.below hb, h.oA.below hb, (hb.block _ (Array.getElem?_eq_some_iff.1 h.yb).1).trans h.yb, h.s2, h.d1, h.d3⟩
theorem str_lt {W : World} {B n c : Nat} {p : Option Addr} {L : List (ByteArray × Int)} (h : StR W B (.slice p n c) L) : ∀ k, (Value.slice p n c).ownBlock = some k → B ≤ k ∧ k < W.heap.size := fun k hk => World.ownsRow.lt h k hk
theorem Lk.mk' {w0 w1 w2 w3 w4 w5 W : World} {l L : List (ByteArray × Int)} {p1 : Option Addr} {c1 : Nat} {p3 : Option Addr} {c3 : Nat} {p4 : Option Addr} {c4 : Nat} {g1 k1 g2 k2 g3 k3 g4 k4 : Nat}
    (r1 : StR w1 w0.heap.size (.slice p1 L.length c1) L) (b1 : Below w0.heap.size w0 w1) (b2 : Below w1.heap.size w1 w2) (r3 : StR w3 w2.heap.size (.slice p3 L.length c3) L) (b3 : Below w2.heap.size w2 w3) (r4 : StR w4 w3.heap.size (.slice p4 L.length c4) L) (b4 : Below w3.heap.size w3 w4)
    (o5 : OwnA w5 w4.heap.size l g1 k1 g2 k2 g3 k3 g4 k4) (b5 : Below w4.heap.size w4 w5) (hW : W = w5.alloc (aqO (.slice (some ⟨g1, 0, none⟩) 0 k1) (.slice (some ⟨g2, 0, none⟩) 0 k2) (.slice (some ⟨g3, 0, none⟩) l.length k3) (.slice (some ⟨g4, 0, none⟩) 0 k4))) :
    Lk w0 l L p1 c1 p3 c3 p4 c4 g1 k1 g2 k2 g3 k3 g4 k4 w5.heap.size w2.heap.size w3.heap.size w4.heap.size W := by
  have b6 : Below w5.heap.size w5 W := hW ▸ bel1 w5 _
  have b45 : Below w4.heap.size w4 W := b5.trans (b6.mono b5.size)
  have b35 : Below w3.heap.size w3 W := b4.trans (b45.mono b4.size)
  have b25 : Below w2.heap.size w2 W := b3.trans (b35.mono b3.size)
  have b15 : Below w1.heap.size w1 W := b2.trans (b25.mono b2.size)
  refine ⟨b1.trans (b15.mono b1.size), r1.below b15, r3.below b35, r4.below b45, o5.below b6, by rw [hW]; exact heap_al w5 _, Nat.le_trans b1.size b2.size, fun k hk => ?_, fun k hk => (str_lt r3 k hk).2⟩
  have := (str_lt r1 k hk).2
  have := b2.size
  omega
theorem Lk.s31 {w0 : World} {l L : List (ByteArray × Int)} {p1 : Option Addr} {c1 : Nat} {p3 : Option Addr} {c3 : Nat} {p4 : Option Addr} {c4 : Nat} {g1 k1 g2 k2 g3 k3 g4 k4 y B2 B3 B4 : Nat} {W : World} (h : Lk w0 l L p1 c1 p3 c3 p4 c4 g1 k1 g2 k2 g3 k3 g4 k4 y B2 B3 B4 W) (hl : L.length ≤ 1048576) :
    Calls Tryd.prog 10 #[.slice p3 L.length c3, .slice p1 L.length c1] W fun e w' => e = .returned (.bool true) ∧ Hid (Lk w0 l L p1 c1 p3 c3 p4 c4 g1 k1 g2 k2 g3 k3 g4 k4 y B2 B3 B4 w') :=
  (sameSteps_any L p3 p1 c3 c1 W h.r3.sp h.r1.sp hl).mono fun _ _ ⟨e, hb⟩ => ⟨e, ⟨h.below hb⟩⟩
theorem Lk.s41 {w0 : World} {l L : List (ByteArray × Int)} {p1 : Option Addr} {c1 : Nat} {p3 : Option Addr} {c3 : Nat} {p4 : Option Addr} {c4 : Nat} {g1 k1 g2 k2 g3 k3 g4 k4 y B2 B3 B4 : Nat} {W : World} (h : Lk w0 l L p1 c1 p3 c3 p4 c4 g1 k1 g2 k2 g3 k3 g4 k4 y B2 B3 B4 W) (hl : L.length ≤ 1048576) :
    Calls Tryd.prog 10 #[.slice p4 L.length c4, .slice p1 L.length c1] W fun e w' => e = .returned (.bool true) ∧ Hid (Lk w0 l L p1 c1 p3 c3 p4 c4 g1 k1 g2 k2 g3 k3 g4 k4 y B2 B3 B4 w') :=
  (sameSteps_any L p4 p1 c4 c1 W h.r4.sp h.r1.sp hl).mono fun _ _ ⟨e, hb⟩ => ⟨e, ⟨h.below hb⟩⟩
theorem Lk.kept {w0 : World} {l L : List (ByteArray × Int)} {p1 : Option Addr} {c1 : Nat} {p3 : Option Addr} {c3 : Nat} {p4 : Option Addr} {c4 : Nat} {g1 k1 g2 k2 g3 k3 g4 k4 y B2 B3 B4 : Nat} {W : World} (h : Lk w0 l L p1 c1 p3 c3 p4 c4 g1 k1 g2 k2 g3 k3 g4 k4 y B2 B3 B4 W) (pp : Option Addr) (cp : Nat) (hr : SpRow w0 pp w0.heap.size l) (hl : l.length ≤ 1048576) :
    Calls Tryd.prog 11 #[.agg (owV l g1 k1 g2 k2 g3 k3 g4 k4), .agg (askC nilS nilS (.slice pp l.length cp) nilS)] W fun e w' => e = .returned (.bool true) ∧ Hid (Lk w0 l L p1 c1 p3 c3 p4 c4 g1 k1 g2 k2 g3 k3 g4 k4 y B2 B3 B4 w') :=
  (kept_any l pp cp B4 W h.oA ((hr.below h.b).mono h.b.size) hl).mono fun _ _ ⟨e, hb⟩ => ⟨e, ⟨h.below hb⟩⟩
theorem Lk.ld {w0 : World} {l L : List (ByteArray × Int)} {p1 : Option Addr} {c1 : Nat} {p3 : Option Addr} {c3 : Nat} {p4 : Option Addr} {c4 : Nat} {g1 k1 g2 k2 g3 k3 g4 k4 y B2 B3 B4 : Nat} {W : World} (h : Lk w0 l L p1 c1 p3 c3 p4 c4 g1 k1 g2 k2 g3 k3 g4 k4 y B2 B3 B4 W) : (Instr.loadAt 40 (.pointer (some ⟨y, 0, none⟩))).run Tryd.prog W = .ok (.agg (owV l g1 k1 g2 k2 g3 k3 g4 k4)) W := aq_ld h.yb
/-- What is left when the steps of one answer are written over. -/
theorem Ov.start {W : World} {B c : Nat} {p : Option Addr} {L : List (ByteArray × Int)} (h : StR W B (.slice p L.length c) L) : Ov W B L.length p c W := ⟨⟨_, h⟩, fun _ _ => rfl, rfl, rfl, rfl, rfl⟩
theorem Ov.fin {w0 : World} {l L : List (ByteArray × Int)} {p1 : Option Addr} {c1 : Nat} {p3 : Option Addr} {c3 : Nat} {p4 : Option Addr} {c4 : Nat} {g1 k1 g2 k2 g3 k3 g4 k4 y B2 B3 B4 : Nat} {W W' : World} (h : Lk w0 l L p1 c1 p3 c3 p4 c4 g1 k1 g2 k2 g3 k3 g4 k4 y B2 B3 B4 W) (ho : Ov W B2 L.length p3 c3 W') :
    Below w0.heap.size w0 W' ∧ StR W' w0.heap.size (.slice p1 L.length c1) L ∧ StR W' B3 (.slice p4 L.length c4) L := by
  have hd3 : ∀ k, (Value.slice p3 L.length c3).ownBlock = some k → B2 ≤ k ∧ k < B3 := fun k hk => ⟨(str_lt h.r3 k hk).1, h.d3 k hk⟩
  refine ⟨h.b.trans ⟨ho.os, ho.tp, ho.ou, Nat.le_of_eq ho.sz.symm, fun k hk => ho.oth k fun e => ?_⟩, ho.keep h.r1 fun k hk e => ?_, ho.keep h.r4 fun k hk e => ?_⟩
  · have := (hd3 k e).1; have := h.s2; omega
  · have := (hd3 k e).1; have := h.d1 k hk; omega
  · have := (hd3 k e).2; have := (str_lt h.r4 k hk).1; omega
end Go.Proofs.YtfikmlckcbnppaaDoor

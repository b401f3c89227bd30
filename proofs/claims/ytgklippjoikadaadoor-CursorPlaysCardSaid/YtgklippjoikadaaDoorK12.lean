/- CuG, CuH. -/
import Derived.Test.YtgklippjoikadaaDoorK11
import Derived.Laws.MakeOwn
namespace Go.Proofs.YtgklippjoikadaaDoor
open Go.ChangeShapes Go.WideShapes Go.ChangeAt Go.RowKit

/-- Numbers in a row of their own. -/
structure NbRow (w : World) (b : Nat) (l : List Nb) : Prop where
  lt : b < w.heap.size
  p : ∀ i s, l[i]? = some s → w.cell? ⟨b, i * 3, none⟩ = some (.int .i64 s.p)
  o : ∀ i s, l[i]? = some s → w.cell? ⟨b, i * 3 + 1, none⟩ = some (.int .i64 s.off)
  v : ∀ i s, l[i]? = some s → w.cell? ⟨b, i * 3 + 2, none⟩ = some (.int .u64 s.v)
theorem NbRow.below {w w' : World} {b : Nat} {l : List Nb} (h : NbRow w b l) (hb : Below w.heap.size w w') : NbRow w' b l :=
  ⟨Nat.lt_of_lt_of_le h.lt hb.size, fun i s hs => (hb.cell (p := ⟨b, i * 3, none⟩) h.lt).trans (h.p i s hs), fun i s hs => (hb.cell (p := ⟨b, i * 3 + 1, none⟩) h.lt).trans (h.o i s hs), fun i s hs => (hb.cell (p := ⟨b, i * 3 + 2, none⟩) h.lt).trans (h.v i s hs)⟩
theorem NbRow.other {w w' : World} {b : Nat} {l : List Nb} {c o g : Nat} (h : NbRow w b l) (hb : Cb c o g w w') (h1 : b ≠ c) (h2 : b ≠ g) : NbRow w' b l :=
  ⟨Nat.lt_of_lt_of_le h.lt hb.size, fun i s hs => (hb.at h.lt h1 h2).trans (h.p i s hs), fun i s hs => (hb.at h.lt h1 h2).trans (h.o i s hs), fun i s hs => (hb.at h.lt h1 h2).trans (h.v i s hs)⟩
structure NbOk (ns : List Nb) : Prop where
  off : ∀ n ∈ ns, 0 ≤ n.off ∧ n.off ≤ 65535
  v : ∀ n ∈ ns, 0 ≤ n.v ∧ n.v < 18446744073709551616
theorem over_take {ns : List Nb} {k : Nat} {n : Nb} (hk : ns[k]? = some n) (h : over (ns.take k) = false) : over (ns.take (k + 1)) = decide (mx n.p < n.v) := by
  unfold over at h ⊢
  rw [List.take_add_one, List.any_append, h, hk]
  simp
theorem over_mem {ns : List Nb} {k : Nat} {n : Nb} (hk : ns[k]? = some n) (h : mx n.p < n.v) : over ns = true := by
  unfold over
  exact List.any_eq_true.2 ⟨n, List.mem_of_getElem? hk, decide_eq_true h⟩
theorem puts_take {hi : Bool} {st en b : Nat} {f : Nat → Int} {ns : List Nb} {k : Nat} {n : Nb} (hk : ns[k]? = some n) : puts hi st en b f (ns.take (k + 1)) = putF hi st en (puts hi st en b f (ns.take k)) (b + n.off) n.p n.v := by
  unfold puts
  rw [List.take_add_one, List.foldl_append, hk]
  rfl
theorem setE_zero {st en a n : Nat} {f : Nat → Int} (h1 : st ≤ a) (h2 : a + n ≤ en) : setE st en a n ByteArray.empty = 0 ∧ setF st en f a n ByteArray.empty = lay f a n ByteArray.empty := by
  obtain ⟨e1, e2⟩ := setZ (st := st) (en := en) (at' := a) (n := n) (t := ByteArray.empty) (f := f) (by omega) (inC_yes (by omega))
  have e3 : ((ByteArray.empty.size : Nat) : Int) ≤ (n : Int) := by show ((0 : Nat) : Int) ≤ n; omega
  rw [e1, e2, if_pos e3, if_pos e3]
  exact ⟨rfl, rfl⟩
set_option maxRecDepth 20000 in
set_option maxHeartbeats 1000000 in
theorem write_any {w : World} {c g len cap st en : Nat} {hi : Bool} {f : Nat → Int} (h : Cs w c 0 g len cap st en hi f) (kt : KT w) (zc : 0 < c) (zg : 0 < g) (size : Int) (ns : List Nb) (b bc : Nat) (hr : NbRow w b ns) (hn : NbOk ns) (hl : ns.length ≤ 4) (h1 : b ≠ c) (h2 : b ≠ g) (hs : 1 ≤ size) (hs2 : size ≤ 65535) :
    Calls Tryd.prog 37 #[.pointer (some ⟨c, 0, none⟩), .int .i64 size, .slice (some ⟨b, 0, none⟩) ns.length bc] w fun e w' => e = .returned (.int .i64 (wrE len en size ns)) ∧ Cs w' c 0 g len cap st (wrN len en size ns) hi (wrF hi len st en f size ns) ∧ Cb c 0 g w w' := by
  have H : Hid (Cs w c 0 g len cap st en hi f) := h
  have HR : Hid (NbRow w b ns) := hr
  have K : Hid (KT w) := kt
  have HN : Hid (NbOk ns) := hn
  clear h hr kt hn
  go_enter Tryd.func37, Tryd.ntmps37
  go_wp2_with fail
  go_loopw [15] (fun i wr => ∃ k : Nat, k ≤ ns.length ∧ i = .int .i64 k ∧ Below w.heap.size w wr ∧ over (ns.take k) = false) (fun i _ => ns.length - (intOf i).toNat)
  case atStart => exact ⟨0, Nat.zero_le _, rfl, Below.refl _ _, rfl⟩
  case round =>
    obtain ⟨k, hk, rfl, HB, HG⟩ := hrel
    by_cases hlt : k < ns.length
    · obtain ⟨n, hs⟩ : ∃ s, ns[k]? = some s := ⟨ns[k], List.getElem?_eq_getElem hlt⟩
      have c0 := (HR.out.below HB).p k n hs
      have c1 := (HR.out.below HB).o k n hs
      have c2 := (HR.out.below HB).v k n hs
      have hlt' : (k : Int) < (ns.length : Int) := by omega
      have M := fun W (hW : Below w.heap.size w W) => max_any n.p W (K.out.below K.out.pos hW)
      have T : Hid (over (ns.take (k + 1)) = decide (mx n.p < n.v)) := over_take hs HG
      have A : Hid (mx n.p < n.v → over ns = true) := over_mem hs
      have HB2 : Hid (Below w.heap.size w wr) := HB
      clear HG hs
      by_cases hv : mx n.p < n.v
      · have hd : decide (mx n.p < n.v) = true := decide_eq_true hv
        have A2 : Hid (over ns = true) := A.out hv
        clear A T HB
        go_wp2_with fail
        go_region_held3 (fun X => X.cell? ⟨wr.heap.size, 0, none⟩ = some (.int .i64 n.p) ∧ X.cell? ⟨wr.heap.size, 2, none⟩ = some (.int .u64 n.v)) (first | assumption | (refine ⟨?_, ?_⟩ <;> assumption) | go_keep) (first
          | (go_at_call 45; refine (M _ (HB2.out.alloc HB2.out.size _).drew).mono ?_; rintro _ w3 ⟨rfl, hb3⟩; have B0 := hb3.cell (p := ⟨wr.heap.size, 0, none⟩) (by simp); have B2 := hb3.cell (p := ⟨wr.heap.size, 2, none⟩) (by simp)))
        all_goals
          go_wp2_with fail
          go_ret
          have hB4 := (HB2.out.alloc HB2.out.size _).drew.trans (hb3.mono (HB2.out.alloc HB2.out.size _).drew.size)
          have e1 : wrE len en size ns = 12 := by unfold wrE; rw [A2.out]; rfl
          refine ⟨ret_int e1.symm, ?_, Cb.of_below hB4 H.out.lt⟩
          unfold wrN wrF
          rw [e1, if_neg (by decide), if_neg (by decide)]
          exact H.out.below hB4
      · have hd : decide (mx n.p < n.v) = false := decide_eq_false hv
        rw [hd] at T
        clear A HB
        go_wp2_with fail
        go_region_held3 (fun X => X.cell? ⟨wr.heap.size, 0, none⟩ = some (.int .i64 n.p) ∧ X.cell? ⟨wr.heap.size, 2, none⟩ = some (.int .u64 n.v)) (first | assumption | (refine ⟨?_, ?_⟩ <;> assumption) | go_keep) (first
          | (go_at_call 45; refine (M _ (HB2.out.alloc HB2.out.size _).drew).mono ?_; rintro _ w3 ⟨rfl, hb3⟩; have B0 := hb3.cell (p := ⟨wr.heap.size, 0, none⟩) (by simp); have B2 := hb3.cell (p := ⟨wr.heap.size, 2, none⟩) (by simp)))
        all_goals
          go_wp2_with fail
          go_roundw
          case rel => exact ⟨k + 1, by omega, by go_num, (HB2.out.alloc HB2.out.size _).drew.trans (hb3.mono (HB2.out.alloc HB2.out.size _).drew.size), T.out⟩
          case measure => simp [intOf]; omega
    · obtain rfl : k = ns.length := by omega
      rw [List.take_length] at HG
      have A : Hid (over ns = false) := HG
      clear HG
      have C := Claim_any (H.out.below HB) size
      rcases clE_cases len en size with ⟨e, hq⟩ | ⟨e, hq⟩ | ⟨e, hq0, hq⟩
      · omega
      · unfold clP clN at C
        rw [e, if_neg (by decide), if_neg (by decide)] at C
        have e1 : Hid (wrE len en size ns = 11) := by show wrE len en size ns = 11; unfold wrE; rw [A.out]; exact e
        have HB2 : Hid (Below w.heap.size w wr) := HB
        clear e A HB
        go_wp2_with (first | (go_at_call 14; refine C.mono ?_; rintro e w2 ⟨rfl, C2, C3⟩))
        go_ret
        refine ⟨ret_int e1.out.symm, ?_, (Cb.of_below HB2.out H.out.lt).trans C3⟩
        unfold wrN wrF
        rw [e1.out, if_neg (by decide), if_neg (by decide)]
        exact C2
      · unfold clP clN at C
        rw [e, if_pos rfl, if_pos rfl] at C
        have E0 : Hid (clE len en size = 0) := e
        clear e
        obtain ⟨m, hm⟩ : ∃ m : Nat, size = m := ⟨size.toNat, by omega⟩
        subst hm
        have em : ((m : Int)).toNat = m := by omega
        rw [em] at C
        have hst := H.out.h1
        have S1 := setE_zero (f := f) (st := st) (en := en + m) (a := en) (n := m) hst (Nat.le_refl _)
        have S := fun W (hW : Cs W c 0 g len cap st (en + m) hi f) => SetCu_any hW en m ByteArray.empty (by omega)
        rw [S1.1, S1.2] at S
        clear S1 em
        have D : Hid (∀ w2, Cs w2 c 0 g len cap st (en + m) hi f → Cb c 0 g wr w2 → ∀ w3, Cs w3 c 0 g len cap st (en + m) hi (lay f en m ByteArray.empty) → Only g w2 w3 → Cb c 0 g w w3) := fun w2 q1 q2 w3 _ q4 => (Cb.of_below HB H.out.lt).trans (q2.trans (Cb.of_only q4 q1.lt q1.ne))
        clear HB
        go_wp2_with (first | (go_at_call 14; refine C.mono ?_; rintro e w2 ⟨rfl, C2, C3⟩) | (go_at_call 28; refine (S _ C2).mono ?_; rintro e w3 ⟨rfl, C4, C5⟩; replace D := D.out w2 C2 C3 w3 C4 C5; clear C S C2 C3 C5))
        have W0 : Hid (wrE len en (m : Int) ns = 0) := by show wrE len en (m : Int) ns = 0; unfold wrE; rw [A.out]; exact E0.out
        replace C4 : Hid _ := C4
        replace D : Hid _ := D
        clear A E0
        generalize hF : lay f en m ByteArray.empty = F0 at C4
        replace hF : Hid _ := hF
        have hll := H.out.h4
        go_loopw [42] (fun i wz => ∃ k : Nat, k ≤ ns.length ∧ i = .int .i64 k ∧ Cs wz c 0 g len cap st (en + m) hi (puts hi st (en + m) en F0 (ns.take k)) ∧ Cb c 0 g w wz) (fun i _ => ns.length - (intOf i).toNat)
        case atStart => exact ⟨0, Nat.zero_le _, rfl, C4.out, D.out⟩
        case round =>
          clear C4 D
          obtain ⟨k, hk, rfl, X1, X2⟩ := hrel
          by_cases hlt : k < ns.length
          · obtain ⟨n, hs⟩ : ∃ s, ns[k]? = some s := ⟨ns[k], List.getElem?_eq_getElem hlt⟩
            have R := HR.out.other X2 h1 h2
            rename World => wz
            have c0 := R.p k n hs
            have c1 := R.o k n hs
            have c2 := R.v k n hs
            have hlt' : (k : Int) < (ns.length : Int) := by omega
            have n1 := HN.out.off n (List.mem_of_getElem? hs)
            have n2 := HN.out.v n (List.mem_of_getElem? hs)
            have hw : IntKind.i64.wrap ((en : Int) + n.off) = (en : Int) + n.off := by rw [IntKind.wrap_i64]; omega
            have KZ := X2.kt K.out zc zg
            have P := fun W (hW : Below wz.heap.size wz W) => PutCu_any (X1.below hW) (KZ.below KZ.pos hW) (en + n.off) n.p n.v n2.1 n2.2
            rw [← puts_take hs] at P
            have Z : Hid (∀ W, Below wz.heap.size wz W → ∀ w', Only g W w' → Cb c 0 g w w') := fun W hW w' hO => X2.trans ((Cb.of_below hW X1.lt).trans (Cb.of_only hO (Nat.lt_of_lt_of_le X1.lt hW.size) X1.ne))
            clear hs R X1 X2 KZ
            go_wp2_with (go_at_call 15; refine (P _ (bel1 _ _)).mono ?_; rintro e w5 ⟨rfl, P1, P2⟩)
            go_roundw
            case rel => exact ⟨k + 1, by omega, by go_num, P1, Z.out _ (bel1 _ _) _ P2⟩
            case measure => simp [intOf]; omega
          · obtain rfl : k = ns.length := by omega
            rw [List.take_length] at X1
            replace X1 : Hid _ := X1
            replace X2 : Hid _ := X2
            go_wp2
            go_ret
            refine ⟨ret_int W0.out.symm, ?_, X2.out⟩
            unfold wrN wrF
            rw [if_pos W0.out, if_pos W0.out, show ((m : Int)).toNat = m by omega, hF.out]
            exact X1.out
end Go.Proofs.YtgklippjoikadaaDoor
namespace Go.Proofs.YtgklippjoikadaaDoor
open Go.ChangeShapes Go.WideShapes Go.ChangeAt Go.RowKit

theorem SpRow.other {w w' : World} {b : Nat} {l : List (Int × Int)} {c o g : Nat} (h : SpRow w b l) (hb : Cb c o g w w') (h1 : b ≠ c) (h2 : b ≠ g) : SpRow w' b l :=
  ⟨Nat.lt_of_lt_of_le h.lt hb.size, fun i s hs => (hb.at h.lt h1 h2).trans (h.p i s hs), fun i s hs => (hb.at h.lt h1 h2).trans (h.o i s hs)⟩
/-- What read tells: the numbers lie in a new block. -/
def rdV (hi : Bool) (st en : Nat) (f : Nat → Int) (b : Nat) (l : List (Int × Int)) : List Int := l.map fun s => getW hi st en f (b + s.2) s.1
structure RdA (w w' : World) (vb : Nat) (vs : List Int) : Prop where
  new : w.heap.size ≤ vb
  lt : vb < w'.heap.size
  c : ∀ i x, vs[i]? = some x → w'.cell? ⟨vb, i, none⟩ = some (.int .u64 x)
structure RdR (E : Int) (n : Nat) (vs : List Int) (w : World) (e : Ending) (w' : World) : Prop where
  no : E ≠ 0 → e = .returned (.tuple #[.slice none 0 0, .int .i64 E])
  yes : E = 0 → ∃ vb vc, e = .returned (.tuple #[.slice (some ⟨vb, 0, none⟩) n vc, .int .i64 0]) ∧ RdA w w' vb vs
theorem info64' : (Tryd.prog.info? 38).map (fun i => (i.zero, i.size, i.bytes)) = some (some (.int .u64 0), 1, 8) := by kernel_rfl
theorem info64 : ∃ i, Tryd.prog.info? 38 = some i ∧ i.zero = some (.int .u64 0) ∧ i.size = 1 ∧ i.bytes = 8 := by
  have h := info64'
  cases hi : Tryd.prog.info? 38 with
  | none => rw [hi] at h; cases h
  | some i =>
    rw [hi] at h
    simp only [Option.map_some, Option.some.injEq, Prod.mk.injEq] at h
    exact ⟨i, rfl, h.1, h.2.1, h.2.2⟩
theorem make_u64 (w : World) (n : Nat) (hn : n ≤ 4) : ∃ W, (Instr.makeSlice 46 (.int .i64 (n : Int)) (.int .i64 (n : Int))).run Tryd.prog w = .ok (.slice (some ⟨w.heap.size, 0, none⟩) n n) W ∧ W.rowIs w.heap.size 38 n (fun _ => .int .u64 0) ∧ Below w.heap.size w W ∧ w.heap.size < W.heap.size := by
  obtain ⟨i, hi, hz, hs, hb⟩ := info64
  have hr := run_make (P := Tryd.prog) w 46 38 i (.int .u64 0) Tryd.underlying46 hi hz .i64 .i64 n n (by omega) (Int.le_refl _) (by rw [hb]; omega) (by omega)
  simp only [Int.toNat_natCast] at hr
  refine ⟨_, hr, ?_, bel1 _ _, by simp⟩
  rw [hs, Nat.mul_one]
  exact World.rowIs_made w _ n _
def told (vs : List Int) (k j : Nat) : Int := if j < k then vs.getD j 0 else 0
theorem Cs.set {w : World} {c o g len cap st en : Nat} {hi : Bool} {f : Nat → Int} {b i : Nat} {v : Value} (h : Cs w c o g len cap st en hi f) (h1 : b ≠ c) (h2 : b ≠ g) : Cs (w.setCell ⟨b, i, none⟩ v) c o g len cap st en hi f := by
  have hB : ∀ k, k ≠ b → (w.setCell ⟨b, i, none⟩ v).heap[k]? = w.heap[k]? := fun k hk => Below.heap_setCell w _ _ k hk
  exact ⟨by simpa [World.setCell] using h.lt, (World.cell?_of_block (w := w) (hB c (Ne.symm h1))).trans h.buf, (World.cell?_of_block (w := w) (hB c (Ne.symm h1))).trans h.fro, (World.cell?_of_block (w := w) (hB c (Ne.symm h1))).trans h.to, (World.cell?_of_block (w := w) (hB c (Ne.symm h1))).trans h.ord,
    (World.frozen?_of_block (w := w) (hB c (Ne.symm h1))).trans h.frz, h.row.of_block (hB g (Ne.symm h2)), h.bd, h.ne, h.h1, h.h2, h.h3, h.h4⟩
theorem Cb.set {w W : World} {c o g b i : Nat} {v : Value} (h : Cb c o g w W) (hb : w.heap.size ≤ b) (h1 : b ≠ c) (_h2 : b ≠ g) : Cb c o g w (W.setCell ⟨b, i, none⟩ v) := by
  have hB : ∀ k, k ≠ b → (W.setCell ⟨b, i, none⟩ v).heap[k]? = W.heap[k]? := fun k hk => Below.heap_setCell W _ _ k hk
  exact ⟨h.os, h.tape, h.output, by simpa [World.setCell] using h.size, fun k hk e1 e2 => (hB k (by omega)).trans (h.block k hk e1 e2), fun j hj => (World.cell?_of_block (w := W) (hB c (Ne.symm h1))).trans (h.cell j hj), fun j => (World.frozen?_of_block (w := W) (hB c (Ne.symm h1))).trans (h.froz j)⟩
set_option maxRecDepth 20000 in
set_option maxHeartbeats 1000000 in
theorem read_any {w : World} {c g len cap st en : Nat} {hi : Bool} {f : Nat → Int} (h : Cs w c 0 g len cap st en hi f) (kt : KT w) (zc : 0 < c) (zg : 0 < g) (size : Int) (l : List (Int × Int)) (b bc : Nat) (hr : SpRow w b l) (ho : ∀ s ∈ l, 0 ≤ s.2 ∧ s.2 ≤ 65535) (hl : l.length ≤ 4) (h1 : b ≠ c) (h2 : b ≠ g) (hs : 1 ≤ size) (hs2 : size ≤ 65535) :
    Calls Tryd.prog 46 #[.pointer (some ⟨c, 0, none⟩), .int .i64 size, .slice (some ⟨b, 0, none⟩) l.length bc] w fun e w' =>
      RdR (clE len en size) l.length (rdV hi st (clN len en size) f en l) w e w' ∧ Cs w' c 0 g len cap st (clN len en size) hi f ∧ Cb c 0 g w w' := by
  have C := Claim_any h size
  rcases clE_cases len en size with ⟨e, hq⟩ | ⟨e, hq⟩ | ⟨e, hq0, hq⟩
  · omega
  · unfold clP at C
    unfold clN at C ⊢
    rw [e, if_neg (by decide), if_neg (by decide)] at C
    rw [e, if_neg (by decide)]
    clear e h hr
    go_enter Tryd.func46, Tryd.ntmps46
    go_wp2_with (first | (go_at_call 14; refine C.mono ?_; rintro e w2 ⟨rfl, C2, C3⟩))
    go_ret2
    exact ⟨⟨fun _ => rfl, fun h => absurd h (by decide)⟩, C2, C3⟩
  · unfold clP at C
    unfold clN at C ⊢
    rw [e, if_pos rfl, if_pos rfl] at C
    rw [e, if_pos rfl]
    clear e
    obtain ⟨m, hm⟩ : ∃ m : Nat, size = m := ⟨size.toNat, by omega⟩
    subst hm
    have em : ((m : Int)).toNat = m := by omega
    rw [em] at C ⊢
    clear em
    have H : Hid (Cs w c 0 g len cap st en hi f) := h
    have HR : Hid (SpRow w b l) := hr
    have K : Hid (KT w) := kt
    clear h hr kt
    go_enter Tryd.func46, Tryd.ntmps46
    go_wp2_with (first | (go_at_call 14; refine C.mono ?_; rintro e w2 ⟨rfl, C2, C3⟩; obtain ⟨W1, hmk, M1, M2, M3⟩ := make_u64 w2 l.length hl))
    have vc : w2.heap.size ≠ c := by have := C2.lt; omega
    have vg : w2.heap.size ≠ g := by have := C2.row.lt; omega
    have vw : Hid (w.heap.size ≤ w2.heap.size) := C3.size
    have vb : b ≠ w2.heap.size := by have := (HR.out.other C3 h1 h2).lt; omega
    replace C3 := C3.trans (Cb.of_below M2 C2.lt)
    replace C2 := C2.below M2
    replace M1 : Hid _ := M1
    replace C2 : Hid _ := C2
    replace C3 : Hid _ := C3
    clear hmk M2 C
    generalize hV : w2.heap.size = vB at *
    have hll := H.out.h4
    go_loopw [27] (fun i wz => ∃ k : Nat, k ≤ l.length ∧ i = .int .i64 k ∧ Cs wz c 0 g len cap st (en + m) hi f ∧ Cb c 0 g w wz ∧ wz.rowIs vB 38 l.length (fun j => .int .u64 (told (rdV hi st (en + m) f en l) k j))) (fun i _ => l.length - (intOf i).toNat)
    case atStart => exact ⟨0, Nat.zero_le _, rfl, C2.out, C3.out, M1.out⟩
    case round =>
      clear C2 C3 M1
      obtain ⟨k, hk, rfl, X1, X2, X3⟩ := hrel
      rename World => wz
      by_cases hlt : k < l.length
      · obtain ⟨s, hs⟩ : ∃ s, l[k]? = some s := ⟨l[k], List.getElem?_eq_getElem hlt⟩
        have R := HR.out.other X2 h1 h2
        have c0 := R.p k s hs
        have c1 := R.o k s hs
        have r0 := X3.cell (i := k) hlt
        have r1 := X3.frozen k
        have rlt := X3.lt
        have hlt' : (k : Int) < (l.length : Int) := by omega
        have n1 := ho s (List.mem_of_getElem? hs)
        have hw : IntKind.i64.wrap ((en : Int) + s.2) = (en : Int) + s.2 := by rw [IntKind.wrap_i64]; omega
        have KZ := X2.kt K.out zc zg
        have P := fun W (hW : Below wz.heap.size wz W) => GetCu_any (X1.below hW) (KZ.below KZ.pos hW) (en + s.2) s.1
        have Z : Hid (∀ W, Below wz.heap.size wz W → ∀ w', Below W.heap.size W w' → ∀ x, x = getW hi st (en + m) f (en + s.2) s.1 → Cs (w'.setCell ⟨vB, k, none⟩ (.int .u64 x)) c 0 g len cap st (en + m) hi f ∧ Cb c 0 g w (w'.setCell ⟨vB, k, none⟩ (.int .u64 x)) ∧ (w'.setCell ⟨vB, k, none⟩ (.int .u64 x)).rowIs vB 38 l.length (fun j => .int .u64 (told (rdV hi st (en + m) f en l) (k + 1) j))) := fun W hW w' hO x hx => by
          have B := belT hW hO
          refine ⟨(X1.below B).set vc vg, (X2.trans (Cb.of_below B X1.lt)).set vw.out vc vg, ((rowIs_below X3 B rlt).set k _).congr fun j _ => ?_⟩
          by_cases e : j = k
          · subst e
            rw [if_pos rfl, hx]
            unfold told rdV
            rw [if_pos (by omega), List.getD_eq_getElem?_getD, List.getElem?_map, hs]
            rfl
          · rw [if_neg e]
            unfold told
            by_cases e2 : j < k
            · rw [if_pos e2, if_pos (by omega)]
            · rw [if_neg e2, if_neg (by omega)]
        have N : Hid (∀ W, Below wz.heap.size wz W → ∀ w', Below W.heap.size W w' → w'.cell? ⟨vB, k, none⟩ = some (.int .u64 (told (rdV hi st (en + m) f en l) k k)) ∧ w'.frozen? ⟨vB, k, none⟩ = false) := fun W hW w' hO => by
          have B := belT hW hO
          exact ⟨(B.cell (p := ⟨vB, k, none⟩) rlt).trans r0, (B.frozen (p := ⟨vB, k, none⟩) rlt).trans r1⟩
        clear hs R X1 X2 X3 KZ r0 r1
        go_wp2_with (go_at_call 19; refine (P _ (bel1 _ _)).mono ?_; rintro e w5 ⟨rfl, P1⟩; obtain ⟨n0, n1⟩ := N.out _ (bel1 _ _) _ P1)
        go_roundw
        case rel =>
          obtain ⟨z1, z2, z3⟩ := Z.out _ (bel1 _ _) _ P1 _ rfl
          exact ⟨k + 1, by omega, by go_num, z1, z2, z3⟩
        case measure => simp [intOf]; omega
      · obtain rfl : k = l.length := by omega
        replace X1 : Hid _ := X1
        replace X2 : Hid _ := X2
        replace X3 : Hid _ := X3
        go_wp2
        go_ret2
        have X4 : wz.rowIs vB 38 l.length (fun j => .int .u64 (told (rdV hi st (en + m) f en l) l.length j)) := X3.out
        refine ⟨⟨fun h => absurd rfl h, fun _ => ⟨vB, l.length, rfl, vw.out, X4.lt, fun i x hx => ?_⟩⟩, X1.out, X2.out⟩
        have hi2 : i < l.length := by
          have := (List.getElem?_eq_some_iff.1 hx).1
          unfold rdV at this
          rw [List.length_map] at this
          exact this
        rw [X4.cell hi2]
        unfold told
        rw [if_pos hi2, List.getD_eq_getElem?_getD, hx]
        rfl
end Go.Proofs.YtgklippjoikadaaDoor

/- A cursor's read: the numbers at their spots. -/
import Derived.Test.YtfhphjgcmbneeaaDoorCuG
import Derived.Laws.MakeOwn
namespace Go.Proofs.YtfhphjgcmbneeaaDoor
open Go.ChangeShapes Go.WideShapes Go.ChangeAt Go.RowKit

theorem SpRow.other {w w' : World} {b : Nat} {l : List (Int × Int)} {c o g : Nat} (h : SpRow w b l) (hb : Cb c o g w w') (h1 : b ≠ c) (h2 : b ≠ g) : SpRow w' b l :=
  ⟨Nat.lt_of_lt_of_le h.lt hb.size, fun i s hs => (hb.at h.lt h1 h2).trans (h.p i s hs), fun i s hs => (hb.at h.lt h1 h2).trans (h.o i s hs)⟩
/-- What read tells: the numbers lie in a new block. -/
def rdV (hi : Bool) (st en : Nat) (f : Nat → Int) (b : Nat) (l : List (Int × Int)) : List Int := l.map fun s => getW hi st en f (b + s.2) s.1
structure RdA (w w' : World) (vb : Nat) (vs : List Int) : Prop where
  new : w.heap.size ≤ vb
  lt : vb < w'.heap.size
  c : ∀ i x, vs[i]? = some x → w'.cell? ⟨vb, i, none⟩ = some (.int .u64 x)
structure RdR (E : Int) (n : Nat) (vs : List Int) (w : World) (e : Ending) (w' : World) : Prop where
  no : E ≠ 0 → e = .returned (.tuple #[.slice none 0 0, .int .i64 E])
  yes : E = 0 → ∃ vb vc, e = .returned (.tuple #[.slice (some ⟨vb, 0, none⟩) n vc, .int .i64 0]) ∧ RdA w w' vb vs
theorem info64' : (Tryd.prog.info? 23).map (fun i => (i.zero, i.size, i.bytes)) = some (some (.int .u64 0), 1, 8) := by kernel_rfl
theorem info64 : ∃ i, Tryd.prog.info? 23 = some i ∧ i.zero = some (.int .u64 0) ∧ i.size = 1 ∧ i.bytes = 8 := by
  have h := info64'
  cases hi : Tryd.prog.info? 23 with
  | none => rw [hi] at h; cases h
  | some i =>
    rw [hi] at h
    simp only [Option.map_some, Option.some.injEq, Prod.mk.injEq] at h
    exact ⟨i, rfl, h.1, h.2.1, h.2.2⟩
theorem make_u64 (w : World) (n : Nat) (hn : n ≤ 4) : ∃ W, (Instr.makeSlice 33 (.int .i64 (n : Int)) (.int .i64 (n : Int))).run Tryd.prog w = .ok (.slice (some ⟨w.heap.size, 0, none⟩) n n) W ∧ W.rowIs w.heap.size 23 n (fun _ => .int .u64 0) ∧ Below w.heap.size w W ∧ w.heap.size < W.heap.size := by
  obtain ⟨i, hi, hz, hs, hb⟩ := info64
  have hr := run_make (P := Tryd.prog) w 33 23 i (.int .u64 0) Tryd.underlying33 hi hz .i64 .i64 n n (by omega) (Int.le_refl _) (by rw [hb]; omega) (by omega)
  simp only [Int.toNat_natCast] at hr
  refine ⟨_, hr, ?_, bel1 _ _, by simp⟩
  rw [hs, Nat.mul_one]
  exact World.rowIs_made w _ n _
def told (vs : List Int) (k j : Nat) : Int := if j < k then vs.getD j 0 else 0
theorem Cs.set {w : World} {c o g len cap st en : Nat} {hi : Bool} {f : Nat → Int} {b i : Nat} {v : Value} (h : Cs w c o g len cap st en hi f) (h1 : b ≠ c) (h2 : b ≠ g) : Cs (w.setCell ⟨b, i, none⟩ v) c o g len cap st en hi f := by
  have hB : ∀ k, k ≠ b → (w.setCell ⟨b, i, none⟩ v).heap[k]? = w.heap[k]? := fun k hk => Below.heap_setCell w _ _ k hk
  exact ⟨by simpa [World.setCell] using h.lt, (World.cell?_of_block (w := w) (hB c (Ne.symm h1))).trans h.buf, (World.cell?_of_block (w := w) (hB c (Ne.symm h1))).trans h.fro, (World.cell?_of_block (w := w) (hB c (Ne.symm h1))).trans h.to, (World.cell?_of_block (w := w) (hB c (Ne.symm h1))).trans h.ord,
    (World.frozen?_of_block (w := w) (hB c (Ne.symm h1))).trans h.frz, h.row.of_block (hB g (Ne.symm h2)), h.bd, h.ne, h.h1, h.h2, h.h3, h.h4⟩
theorem Cb.set {w W : World} {c o g b i : Nat} {v : Value} (h : Cb c o g w W) (hb : w.heap.size ≤ b) (h1 : b ≠ c) (_h2 : b ≠ g) : Cb c o g w (W.setCell ⟨b, i, none⟩ v) := by
  have hB : ∀ k, k ≠ b → (W.setCell ⟨b, i, none⟩ v).heap[k]? = W.heap[k]? := fun k hk => Below.heap_setCell W _ _ k hk
  exact ⟨h.os, h.tape, h.output, by simpa [World.setCell] using h.size, fun k hk e1 e2 => (hB k (by omega)).trans (h.block k hk e1 e2), fun j hj => (World.cell?_of_block (w := W) (hB c (Ne.symm h1))).trans (h.cell j hj), fun j => (World.frozen?_of_block (w := W) (hB c (Ne.symm h1))).trans (h.froz j)⟩
set_option maxRecDepth 20000 in
set_option maxHeartbeats 1000000 in
theorem read_any {w : World} {c g len cap st en : Nat} {hi : Bool} {f : Nat → Int} (h : Cs w c 0 g len cap st en hi f) (kt : KT w) (zc : 0 < c) (zg : 0 < g) (size : Int) (l : List (Int × Int)) (b bc : Nat) (hr : SpRow w b l) (ho : ∀ s ∈ l, 0 ≤ s.2 ∧ s.2 ≤ 65535) (hl : l.length ≤ 4) (h1 : b ≠ c) (h2 : b ≠ g) (hs : 1 ≤ size) (hs2 : size ≤ 65535) :
    Calls Tryd.prog 34 #[.pointer (some ⟨c, 0, none⟩), .int .i64 size, .slice (some ⟨b, 0, none⟩) l.length bc] w fun e w' =>
      RdR (clE len en size) l.length (rdV hi st (clN len en size) f en l) w e w' ∧ Cs w' c 0 g len cap st (clN len en size) hi f ∧ Cb c 0 g w w' := by
  have C := Claim_any h size
  rcases clE_cases len en size with ⟨e, hq⟩ | ⟨e, hq⟩ | ⟨e, hq0, hq⟩
  · omega
  · unfold clP at C
    unfold clN at C ⊢
    rw [e, if_neg (by decide), if_neg (by decide)] at C
    rw [e, if_neg (by decide)]
    clear e h hr
    go_enter Tryd.func34, Tryd.ntmps34
    go_wp2_with (first | (go_at_call 8; refine C.mono ?_; rintro e w2 ⟨rfl, C2, C3⟩))
    go_ret2
    exact ⟨⟨fun _ => rfl, fun h => absurd h (by decide)⟩, C2, C3⟩
  · unfold clP at C
    unfold clN at C ⊢
    rw [e, if_pos rfl, if_pos rfl] at C
    rw [e, if_pos rfl]
    clear e
    obtain ⟨m, hm⟩ : ∃ m : Nat, size = m := ⟨size.toNat, by omega⟩
    subst hm
    have em : ((m : Int)).toNat = m := by omega
    rw [em] at C ⊢
    clear em
    have H : Hid (Cs w c 0 g len cap st en hi f) := h
    have HR : Hid (SpRow w b l) := hr
    have K : Hid (KT w) := kt
    clear h hr kt
    go_enter Tryd.func34, Tryd.ntmps34
    go_wp2_with (first | (go_at_call 8; refine C.mono ?_; rintro e w2 ⟨rfl, C2, C3⟩; obtain ⟨W1, hmk, M1, M2, M3⟩ := make_u64 w2 l.length hl))
    have vc : w2.heap.size ≠ c := by have := C2.lt; omega
    have vg : w2.heap.size ≠ g := by have := C2.row.lt; omega
    have vw : Hid (w.heap.size ≤ w2.heap.size) := C3.size
    have vb : b ≠ w2.heap.size := by have := (HR.out.other C3 h1 h2).lt; omega
    replace C3 := C3.trans (Cb.of_below M2 C2.lt)
    replace C2 := C2.below M2
    replace M1 : Hid _ := M1
    replace C2 : Hid _ := C2
    replace C3 : Hid _ := C3
    clear hmk M2 C
    generalize hV : w2.heap.size = vB at *
    have hll := H.out.h4
    go_loopw [27] (fun i wz => ∃ k : Nat, k ≤ l.length ∧ i = .int .i64 k ∧ Cs wz c 0 g len cap st (en + m) hi f ∧ Cb c 0 g w wz ∧ wz.rowIs vB 23 l.length (fun j => .int .u64 (told (rdV hi st (en + m) f en l) k j))) (fun i _ => l.length - (intOf i).toNat)
    case atStart => exact ⟨0, Nat.zero_le _, rfl, C2.out, C3.out, M1.out⟩
    case round =>
      clear C2 C3 M1
      obtain ⟨k, hk, rfl, X1, X2, X3⟩ := hrel
      rename World => wz
      by_cases hlt : k < l.length
      · obtain ⟨s, hs⟩ : ∃ s, l[k]? = some s := ⟨l[k], List.getElem?_eq_getElem hlt⟩
        have R := HR.out.other X2 h1 h2
        have c0 := R.p k s hs
        have c1 := R.o k s hs
        have r0 := X3.cell (i := k) hlt
        have r1 := X3.frozen k
        have rlt := X3.lt
        have hlt' : (k : Int) < (l.length : Int) := by omega
        have n1 := ho s (List.mem_of_getElem? hs)
        have hw : IntKind.i64.wrap ((en : Int) + s.2) = (en : Int) + s.2 := by rw [IntKind.wrap_i64]; omega
        have KZ := X2.kt K.out zc zg
        have P := fun W (hW : Below wz.heap.size wz W) => GetCu_any (X1.below hW) (KZ.below KZ.pos hW) (en + s.2) s.1
        have Z : Hid (∀ W, Below wz.heap.size wz W → ∀ w', Below W.heap.size W w' → ∀ x, x = getW hi st (en + m) f (en + s.2) s.1 → Cs (w'.setCell ⟨vB, k, none⟩ (.int .u64 x)) c 0 g len cap st (en + m) hi f ∧ Cb c 0 g w (w'.setCell ⟨vB, k, none⟩ (.int .u64 x)) ∧ (w'.setCell ⟨vB, k, none⟩ (.int .u64 x)).rowIs vB 23 l.length (fun j => .int .u64 (told (rdV hi st (en + m) f en l) (k + 1) j))) := fun W hW w' hO x hx => by
          have B := belT hW hO
          refine ⟨(X1.below B).set vc vg, (X2.trans (Cb.of_below B X1.lt)).set vw.out vc vg, ((rowIs_below X3 B rlt).set k _).congr fun j _ => ?_⟩
          by_cases e : j = k
          · subst e
            rw [if_pos rfl, hx]
            unfold told rdV
            rw [if_pos (by omega), List.getD_eq_getElem?_getD, List.getElem?_map, hs]
            rfl
          · rw [if_neg e]
            unfold told
            by_cases e2 : j < k
            · rw [if_pos e2, if_pos (by omega)]
            · rw [if_neg e2, if_neg (by omega)]
        have N : Hid (∀ W, Below wz.heap.size wz W → ∀ w', Below W.heap.size W w' → w'.cell? ⟨vB, k, none⟩ = some (.int .u64 (told (rdV hi st (en + m) f en l) k k)) ∧ w'.frozen? ⟨vB, k, none⟩ = false) := fun W hW w' hO => by
          have B := belT hW hO
          exact ⟨(B.cell (p := ⟨vB, k, none⟩) rlt).trans r0, (B.frozen (p := ⟨vB, k, none⟩) rlt).trans r1⟩
        clear hs R X1 X2 X3 KZ r0 r1
        go_wp2_with (go_at_call 15; refine (P _ (bel1 _ _)).mono ?_; rintro e w5 ⟨rfl, P1⟩; obtain ⟨n0, n1⟩ := N.out _ (bel1 _ _) _ P1)
        go_roundw
        case rel =>
          obtain ⟨z1, z2, z3⟩ := Z.out _ (bel1 _ _) _ P1 _ rfl
          exact ⟨k + 1, by omega, by go_num, z1, z2, z3⟩
        case measure => simp [intOf]; omega
      · obtain rfl : k = l.length := by omega
        replace X1 : Hid _ := X1
        replace X2 : Hid _ := X2
        replace X3 : Hid _ := X3
        go_wp2
        go_ret2
        have X4 : wz.rowIs vB 23 l.length (fun j => .int .u64 (told (rdV hi st (en + m) f en l) l.length j)) := X3.out
        refine ⟨⟨fun h => absurd rfl h, fun _ => ⟨vB, l.length, rfl, vw.out, X4.lt, fun i x hx => ?_⟩⟩, X1.out, X2.out⟩
        have hi2 : i < l.length := by
          have := (List.getElem?_eq_some_iff.1 hx).1
          unfold rdV at this
          rw [List.length_map] at this
          exact this
        rw [X4.cell hi2]
        unfold told
        rw [if_pos hi2, List.getD_eq_getElem?_getD, hx]
        rfl
end Go.Proofs.YtfhphjgcmbneeaaDoor

/- put, header, Wrap. -/
import Derived.Test.YtnicdehbedcdpaaFmK
namespace Go.Proofs.Ytnicdehbedcdpaa
open Go.ChangeShapes Go.WideShapes Go.ChangeAt Go.RowKit

/-- What put writes into bytes from o on, the first i of L steps. -/
def putL (V : List Nat) (o L n : Nat) : Nat → List Nat
  | 0 => V
  | i + 1 => (putL V o L n i).set (o + (L - 1 - i)) (n / 256 ^ i % 256)
theorem putL_length (V : List Nat) (o L n : Nat) : ∀ i, (putL V o L n i).length = V.length
  | 0 => rfl
  | i + 1 => by unfold putL; rw [List.length_set, putL_length V o L n i]
/-- Bytes of an array's block. -/
def Arr (w : World) (g : Nat) (V : List Nat) : Prop := w.heap[g]? = some (.cells (V.map cU).toArray 78 (0, 0))
theorem Arr.get {w : World} {g : Nat} {V : List Nat} (h : Arr w g V) {i x : Nat} (hx : V[i]? = some x) : w.cell? ⟨g, i, none⟩ = some (.int .u8 (x : Int)) := by
  rw [cellA h i]
  simp [hx, cU]
theorem Arr.set {w : World} {g : Nat} {V : List Nat} (h : Arr w g V) (i x : Nat) : Arr (w.setCell ⟨g, i, none⟩ (.int .u8 (x : Int))) g (V.set i x) := by
  have e : (w.setCell ⟨g, i, none⟩ (.int .u8 (x : Int))).heap = w.heap.modify g (fun x_1 => match x_1 with
      | .cells cs t f => .cells (cs.setIfInBounds i (.int .u8 (x : Int))) t f
      | x => x) := rfl
  unfold Arr at h ⊢
  rw [e, Array.getElem?_modify, if_pos rfl, h]
  simp [List.map_set, cU]
set_option maxHeartbeats 1000000 in
theorem put_any (g o L c n : Nat) (V : List Nat) (w : World) (hA : Arr w g V) (hL : o + L ≤ V.length) (h4 : L ≤ 4) (hV : V.length ≤ 6) :
    Calls Try.prog 40 #[.slice (some ⟨g, o, none⟩) L c, .int .i64 (n : Int)] w fun e w' => e = .returned (.tuple #[]) ∧ Arr w' g (putL V o L n L) ∧ Kx g none w w' := by
  have hx0 := Kx.refl g none w
  go_enter Try.func40, Try.ntmps40
  go_wp2_with fail
  go_loopw [7] (fun i wr => ∃ j : Nat, j ≤ L ∧ i = .int .i64 (j : Int) ∧ Arr wr g (putL V o L n j) ∧ Kx g none w wr) (fun i _ => L - (intOf i).toNat)
  case atStart => exact ⟨0, Nat.zero_le _, rfl, hA, hx0⟩
  case round =>
    obtain ⟨j, hj, rfl, hP, hK⟩ := hrel
    by_cases hlt : j < L
    · have hlti : (j : Int) < (L : Int) := by omega
      have hll := putL_length V o L n j
      have i1 : o + (L - 1 - j) < (putL V o L n j).length := by omega
      have hc := hP.get (List.getElem?_eq_getElem i1)
      have hf := frozA hP (o + (L - 1 - j))
      have hS := hP.set (o + (L - 1 - j)) (n / 256 ^ j % 256)
      have s1 : IntKind.i64.wrap ((L : Int) - 1 - (j : Int)) = ((L - 1 - j : Nat) : Int) := by rw [IntKind.wrap_i64]; omega
      have s2 : IntKind.i64.wrap (8 * (j : Int)) = ((8 * j : Nat) : Int) := by rw [IntKind.wrap_i64]; omega
      have i3 : ((L - 1 - j : Nat) : Int) < (L : Int) := by omega
      have i4 : (L : Int) - 1 - (j : Int) = ((L - 1 - j : Nat) : Int) := by omega
      go_wp2_with fail
      have hp : (2 : Int) ^ (8 * j) = ((256 ^ j : Nat) : Int) := by
        rw [show (256 : Nat) = 2 ^ 8 from rfl, ← Nat.pow_mul, Int.natCast_pow]
        rfl
      have hv : (n : Int) / 2 ^ (8 * j) % 256 = ((n / 256 ^ j % 256 : Nat) : Int) := by
        rw [hp, ← Int.natCast_ediv]
        omega
      rw [hv]
      exact ⟨⟨j + 1, by omega, by go_num, hS, hK.trans (Kx.set _ _ _ _ _)⟩, by simp [intOf]; omega⟩
    · obtain rfl : j = L := by omega
      have hlti : ¬ (j : Int) < (j : Int) := by omega
      go_wp2_with fail
      go_end0
      exact ⟨rfl, hP, hK⟩
/-- A frame's header. -/
def hdL (n t : Nat) : List Nat := [n / 16777216 % 256, n / 65536 % 256, n / 256 % 256, n % 256, t / 256 % 256, t % 256]
theorem putL_hd (n t : Nat) : putL (putL [0, 0, 0, 0, 0, 0] 0 4 n 4) 4 2 t 2 = hdL n t := by
  simp [putL, hdL]
theorem knB_two {t : Int} (h : knB t = true) : t = ((23520 : Nat) : Int) ∨ t = ((60240 : Nat) : Int) := by
  unfold knB at h
  simp at h
  exact h
def headZ (t : Int) (n : Nat) : ByteArray × Int := if knB t = false then (⟨#[]⟩, 241) else if 4294967289 < n then (⟨#[]⟩, 240) else (sOf (hdL (n + 6) t.toNat), 0)
set_option maxHeartbeats 1000000 in
theorem header_any (t : Int) (n : Nat) (w : World) (hn : n ≤ 9223372036854770000) :
    Calls Try.prog 34 #[.int .i64 t, .int .i64 (n : Int)] w fun e w' => e = .returned (.tuple #[.string (headZ t n).1, .int .i64 (headZ t n).2]) ∧ Below w.heap.size w w' := by
  unfold headZ
  by_cases h1 : knB t = false
  · rw [if_pos h1]
    go_enter Try.func34, Try.ntmps34
    go_wp2_with (go_at_call 39; refine (known_any _ _).mono ?_; rintro _ _ ⟨rfl, rfl⟩)
    go_ret2
    exact ⟨rfl, Below.refl _ _⟩
  rw [if_neg h1]
  replace h1 : knB t = true := by simpa using h1
  by_cases h2 : 4294967289 < n
  · rw [if_pos h2]
    have h2i : (4294967289 : Int) < (n : Int) := by omega
    go_enter Try.func34, Try.ntmps34
    go_wp2_with (go_at_call 39; refine (known_any _ _).mono ?_; rintro _ _ ⟨rfl, rfl⟩)
    go_ret2
    exact ⟨rfl, Below.refl _ _⟩
  rw [if_neg h2]
  have h2i : ¬ (4294967289 : Int) < (n : Int) := by omega
  obtain ⟨T, rfl, hT⟩ : ∃ T : Nat, t = (T : Int) ∧ T < 65536 := by
    rcases knB_two h1 with h | h
    · exact ⟨_, h, by decide⟩
    · exact ⟨_, h, by decide⟩
  have e1 : ((T : Int)).toNat = T := by omega
  rw [e1, ← putL_hd]
  have hA : Arr (w.alloc (.cells #[.int .u8 0, .int .u8 0, .int .u8 0, .int .u8 0, .int .u8 0, .int .u8 0] 78)) w.heap.size [0, 0, 0, 0, 0, 0] := heap_nw w _
  have hb0 := bel1 w (.cells #[.int .u8 0, .int .u8 0, .int .u8 0, .int .u8 0, .int .u8 0, .int .u8 0] 78)
  have c1 := put_any w.heap.size 0 4 6 (n + 6) [0, 0, 0, 0, 0, 0] _ hA (by decide) (by decide) (by decide)
  have hll := putL_length [0, 0, 0, 0, 0, 0] 0 4 (n + 6) 4
  generalize putL [0, 0, 0, 0, 0, 0] 0 4 (n + 6) 4 = V1 at c1 hll ⊢
  have c2 : ∀ w1, Arr w1 w.heap.size V1 → _ := fun w1 h => put_any w.heap.size 4 2 2 T V1 w1 h (by rw [hll]; decide) (by decide) (by rw [hll]; decide)
  have hl2 := putL_length V1 4 2 T 2
  generalize putL V1 4 2 T 2 = V2 at c2 hl2 ⊢
  have s1 : IntKind.i64.wrap (6 + (n : Int)) = ((n + 6 : Nat) : Int) := by rw [IntKind.wrap_i64]; omega
  have s2 : 6 + (n : Int) = ((n + 6 : Nat) : Int) := by omega
  have key : ∀ w2, Arr w2 w.heap.size V2 → ∀ c, (convert 33 9 (.slice (some ⟨w.heap.size, 0, none⟩) 6 c)).run Try.prog w2 = .ok (.string (sOf V2)) w2 := fun w2 h2 c =>
    conv_at w2 w.heap.size 0 6 c V2 (by rw [hl2, hll]; rfl) fun k x hx => by rw [Nat.zero_add]; exact h2.get hx
  have F1 : True := trivial
  go_enter Try.func34, Try.ntmps34
  go_wp2_with (first
    | (go_at_call 39; refine (known_any _ _).mono ?_; rintro _ _ ⟨rfl, rfl⟩)
    | (go_at_call 40; clear F1; refine c1.mono ?_; rintro _ w1 ⟨rfl, hA1, hK1⟩)
    | (go_at_call 40; refine (c2 _ hA1).mono ?_; rintro _ w2 ⟨rfl, hA2, hK2⟩; have key := key _ hA2))
  go_ret2
  exact ⟨rfl, hb0.trans ((hK1.trans hK2).below (Nat.le_refl _) hb0.size)⟩
theorem headZ_size (t : Int) (n : Nat) : (headZ t n).1.size ≤ 6 := by
  unfold headZ
  split
  · decide
  · split
    · decide
    · rw [sOf_size]; exact Nat.le_refl 6
/-- What Wrap answers. -/
def wrapZ (p : Pcl) : ByteArray × Int := if (headZ p.t p.b.size).2 = 0 then ((headZ p.t p.b.size).1 ++ p.b, 0) else (⟨#[]⟩, (headZ p.t p.b.size).2)
set_option maxHeartbeats 1000000 in
theorem Wrap_any (p : Pcl) (w : World) (hn : p.b.size ≤ 9223372036854770000) :
    Calls Try.prog 19 #[.agg #[.int .i64 p.t, .string p.b]] w fun e w' => e = .returned (.tuple #[.string (wrapZ p).1, .int .i64 (wrapZ p).2]) ∧ Below w.heap.size w w' := by
  have hb0 := bel1 w (.cells #[.int .i64 p.t, .string p.b] 36)
  have hN := heap_nw w (.cells #[.int .i64 p.t, .string p.b] 36)
  have c0 := header_any p.t p.b.size (w.alloc (.cells #[.int .i64 p.t, .string p.b] 36)) hn
  unfold wrapZ
  have hz := headZ_size p.t p.b.size
  generalize headZ p.t p.b.size = Z at c0 hz ⊢
  have hz2 : ¬ 9223372036854775807 < Z.1.size + p.b.size := by omega
  have hz3 : Z.1.size + p.b.size ≤ 9223372036854775807 := by omega
  by_cases h : Z.2 = 0
  · rw [if_pos h]
    have F1 : True := trivial
    rw [h] at c0
    go_enter Try.func19, Try.ntmps19
    go_wp2_with (go_at_call 34; refine c0.mono ?_; rintro _ w1 ⟨rfl, hb⟩; have y1 := (hb.cell (p := ⟨w.heap.size, 1, none⟩) (by simp)).trans (cellA hN 1))
    go_ret2
    exact ⟨rfl, hb0.trans (hb.mono hb0.size)⟩
  · rw [if_neg h]
    go_enter Try.func19, Try.ntmps19
    go_wp2_with (go_at_call 34; refine c0.mono ?_; rintro _ w1 ⟨rfl, hb⟩)
    go_ret2
    exact ⟨rfl, hb0.trans (hb.mono hb0.size)⟩
set_option maxHeartbeats 2000000 in
theorem refWrap_any (p : Pcl) (w : World) (hn : p.b.size ≤ 9223372036854770000) :
    Calls Try.prog 20 #[.agg #[.int .i64 p.t, .string p.b]] w fun e w' => e = .returned (.tuple #[.string (wrapZ p).1, .int .i64 (wrapZ p).2]) ∧ Below w.heap.size w w' := by
  obtain ⟨t, b⟩ := p
  have hb0 := bel1 w (.cells #[.int .i64 t, .string b] 36)
  unfold wrapZ headZ
  dsimp only at hn ⊢
  by_cases h1 : knB t = false
  · rw [if_pos h1]
    rw [if_neg (by decide)]
    go_enter Try.func20, Try.ntmps20
    go_wp2_with (go_at_call 33; refine (refknown_any _ _).mono ?_; rintro _ _ ⟨rfl, rfl⟩)
    go_ret2
    exact ⟨rfl, hb0⟩
  rw [if_neg h1]
  replace h1 : knB t = true := by simpa using h1
  obtain ⟨N, hN⟩ : ∃ N, b.size + 6 = N := ⟨_, rfl⟩
  have s1 : IntKind.i64.wrap ((b.size : Int) + 6) = (N : Int) := by rw [IntKind.wrap_i64]; omega
  have s2 : (b.size : Int) + 6 = (N : Int) := by omega
  by_cases h2 : 4294967289 < b.size
  · rw [if_pos h2]
    rw [if_neg (by decide)]
    have h2i : (4294967295 : Int) < (N : Int) := by omega
    go_enter Try.func20, Try.ntmps20
    go_wp2_with (go_at_call 33; refine (refknown_any _ _).mono ?_; rintro _ _ ⟨rfl, rfl⟩)
    go_ret2
    exact ⟨rfl, hb0⟩
  rw [if_neg h2]
  rw [if_pos rfl]
  have h2i : ¬ (4294967295 : Int) < (N : Int) := by omega
  obtain ⟨T, rfl, hT⟩ : ∃ T : Nat, t = (T : Int) ∧ T < 65536 := by
    rcases knB_two h1 with h | h
    · exact ⟨_, h, by decide⟩
    · exact ⟨_, h, by decide⟩
  have e1 : ((T : Int)).toNat = T := by omega
  rw [e1, hN]
  have kc : (convert 33 9 (.slice (some ⟨w.heap.size + 1, 0, none⟩) 6 6)).run Try.prog ((w.alloc (.cells #[.int .i64 (T : Int), .string b] 36)).alloc (.cells #[.int .u8 ((N : Int) / 16777216), .int .u8 ((N : Int) / 65536 % 256), .int .u8 ((N : Int) / 256 % 256), .int .u8 ((N : Int) % 256), .int .u8 ((T : Int) / 256), .int .u8 ((T : Int) % 256)] 5)) = .ok (.string (sOf (hdL N T))) ((w.alloc (.cells #[.int .i64 (T : Int), .string b] 36)).alloc (.cells #[.int .u8 ((N : Int) / 16777216), .int .u8 ((N : Int) / 65536 % 256), .int .u8 ((N : Int) / 256 % 256), .int .u8 ((N : Int) % 256), .int .u8 ((T : Int) / 256), .int .u8 ((T : Int) % 256)] 5)) := by
    have hn2 := heap_nw (w.alloc (.cells #[.int .i64 (T : Int), .string b] 36)) (.cells #[.int .u8 ((N : Int) / 16777216), .int .u8 ((N : Int) / 65536 % 256), .int .u8 ((N : Int) / 256 % 256), .int .u8 ((N : Int) % 256), .int .u8 ((T : Int) / 256), .int .u8 ((T : Int) % 256)] 5)
    rw [World.size_alloc] at hn2
    refine conv_at _ (w.heap.size + 1) 0 6 6 (hdL N T) rfl fun k x hx => ?_
    rw [cellA hn2, Nat.zero_add]
    have hk : k < 6 := (List.getElem?_eq_some_iff.1 hx).1
    have hk6 : k = 0 ∨ k = 1 ∨ k = 2 ∨ k = 3 ∨ k = 4 ∨ k = 5 := by omega
    rcases hk6 with rfl | rfl | rfl | rfl | rfl | rfl
    all_goals
      cases hx
      simp
      try omega
  have hz2 : ¬ 9223372036854775807 < (sOf (hdL N T)).size + b.size := by rw [sOf_size]; show ¬ 9223372036854775807 < 6 + b.size; omega
  go_enter Try.func20, Try.ntmps20
  go_wp2_with (go_at_call 33; refine (refknown_any _ _).mono ?_; rintro _ _ ⟨rfl, rfl⟩)
  go_ret2
  exact ⟨rfl, hb0.alloc (by rw [World.size_alloc]; omega) _⟩
end Go.Proofs.Ytnicdehbedcdpaa

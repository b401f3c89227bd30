/- A header behind a stream of good frames. -/
import Derived.Test.YtnicdehbedcdpaaFmU
import Derived.Test.YtnicdehbedcdpaaFmQ
namespace Go.Proofs.Ytnicdehbedcdpaa
open Go.ChangeShapes Go.WideShapes Go.ChangeAt Go.RowKit

/-- What the drawn header is: its length, the error, how many bytes tell it, its encoding. -/
structure HdQ (g N : Nat) (want : Int) (T t : Nat) : Prop where
  g6 : 6 ≤ g
  t0 : t < 65536
  kn : knB (t : Int) = false
  c : (want = 240 ∧ T = 4 ∧ (N < 6 ∨ g < N) ∧ N ≤ 2000) ∨ (want = 241 ∧ T = 6 ∧ N = 6)
theorem hd_len (N t : Nat) : (hdL N t).length = 6 := rfl
theorem hd_take (N t : Nat) (k : Nat) (h4 : 4 ≤ k) (X : List Nat) (hN : N < 4294967296) : lnZ ((hdL N t).take k ++ X) = N := by
  have e : ((hdL N t).take k ++ X).take 4 = (hdL N t).take 4 := by
    rw [List.take_append_of_le_length (by rw [List.length_take, hd_len]; omega), List.take_take, Nat.min_eq_left h4]
  unfold lnZ
  rw [e]
  have := hd_ln N t [] hN
  rwa [List.append_nil] at this
theorem HdQ.wn {g N : Nat} {want : Int} {T t : Nat} (h : HdQ g N want T t) : want ≠ 0 := by
  rcases h.c with ⟨e, _⟩ | ⟨e, _⟩ <;> rw [e] <;> decide
theorem HdQ.N32 {g N : Nat} {want : Int} {T t : Nat} (h : HdQ g N want T t) : N < 4294967296 := by rcases h.c with ⟨_, _, _, e⟩ | ⟨_, _, e⟩ <;> omega
theorem HdQ.T6 {g N : Nat} {want : Int} {T t : Nat} (h : HdQ g N want T t) : 4 ≤ T ∧ T ≤ 6 := by rcases h.c with ⟨_, e, _⟩ | ⟨_, e, _⟩ <;> omega
theorem HdQ.beg {g N : Nat} {want : Int} {T t : Nat} (h : HdQ g N want T t) : cutZ (g : Int) ((hdL N t).take (T - 1)) = ([], 0, 0) ∧ 1 ≤ ndZ ((hdL N t).take (T - 1)) 0 := by
  have hN := h.N32
  have hg := h.g6
  have hlen : ((hdL N t).take (T - 1)).length = T - 1 := by rw [List.length_take, hd_len]; have := h.T6; omega
  have hk : lkZ (g : Int) ((hdL N t).take (T - 1)) = 0 := by
    unfold lkZ
    rw [hlen]
    rcases h.c with ⟨_, rfl, _⟩ | ⟨_, rfl, rfl⟩
    · rfl
    · have := hd_take 6 t 5 (by decide) [] (by decide)
      rw [List.append_nil] at this
      rw [if_neg (by decide), this, if_neg (by omega), if_pos (by decide)]
  refine ⟨by rw [cutZ_no (by rw [hk]; decide), hk]; rfl, ?_⟩
  unfold ndZ
  rw [if_neg (by simp), hlen]
  rcases h.c with ⟨_, rfl, _⟩ | ⟨_, rfl, rfl⟩
  · rw [if_pos (by decide)]; decide
  · have := hd_take 6 t 5 (by decide) [] (by decide)
    rw [List.append_nil] at this
    rw [if_neg (by decide), this]
    decide
theorem HdQ.no {g N : Nat} {want : Int} {T t : Nat} (h : HdQ g N want T t) (X : List Nat) : cutZ (g : Int) (hdL N t ++ X) = ([], 0, want) := by
  have hN := h.N32
  have hg := h.g6
  have e1 : lnZ (hdL N t ++ X) = N := hd_ln N t X hN
  have e2 : kdZ (hdL N t ++ X) = t := hd_kd N t X h.t0
  have hl : (hdL N t ++ X).length = 6 + X.length := by rw [List.length_append, hd_len]
  have hk : lkZ (g : Int) (hdL N t ++ X) = if want = 240 then 2 else 3 := by
    unfold lkZ
    rw [hl, e1, e2, if_neg (by omega)]
    rcases h.c with ⟨rfl, _, h1, _⟩ | ⟨rfl, _, rfl⟩
    · rw [if_pos (by omega)]; rfl
    · rw [if_neg (by omega), if_neg (by omega), if_pos h.kn]; rfl
  have hw : want = 240 ∨ want = 241 := by rcases h.c with ⟨e, _⟩ | ⟨e, _⟩ <;> simp [e]
  rw [cutZ_no (by rw [hk]; split <;> decide), hk]
  rcases hw with rfl | rfl <;> rfl
theorem hdL_lt (N t : Nat) : ∀ b ∈ hdL N t, b < 256 := by
  intro b hb
  unfold hdL at hb
  simp only [List.mem_cons, List.not_mem_nil, or_false] at hb
  omega
/-- A row of bytes as the source of an append. -/
theorem Rwb.src {w : World} {B n c : Nat} {p : Option Addr} {L : List Nat} (h : Rwb w B (.slice p n c) L) (hn : L.length = n) {W : World} (hb : Below w.heap.size w W) : Src Try.prog 1 33 (.slice p n c) L.length (L.map cU) W := by
  rcases h with ⟨e, rfl⟩ | ⟨g, cap, e, _, hg, _, hx⟩
  · cases e
    exact Src.ofNil (P := Try.prog) (size := 1) W Try.underlying33 0
  · cases e
    refine Src.ofSlice W Try.underlying33 ⟨g, 0, none⟩ L.length c _ (by rw [List.length_map, Nat.mul_one]) (fun j u hu => ?_) (cU_one _)
    rw [List.getElem?_map] at hu
    obtain ⟨x, hx2, rfl⟩ := Option.map_eq_some_iff.1 hu
    rw [addrP, Nat.zero_add]
    exact (hb.cell (p := ⟨g, j, none⟩) hg).trans (hx j x hx2)
/-- A Feed of a text's bytes. -/
theorem Feed_conv {w : World} {B R : Nat} {v : Value} {L M : List Nat} {lim : Int} (h : Fr w B R v L 0 lim 0) (hb : Buf w B v L) (hl : L.length + M.length ≤ 140737488355328) (hM : ∀ b ∈ M, b < 256) (hn : (cutZ lim (L ++ M)).1.length ≤ 4398046511103) :
    Calls Try.prog 12 #[.pointer (some ⟨R, 0, none⟩), .slice (some ⟨w.heap.size, 0, none⟩) M.length (grownCap w M.length 0 5)] (Lib.bytesWorld w 5 (sOf M)) (FeedP w B R v lim (L ++ M)) := by
  have b0 := bytes_below w (sOf M)
  have hR := Rwb.conv (sOf M) w (B := 0) (Nat.zero_le _)
  rw [lOf_sOf M hM, sOf_size] at hR
  have hF := h.below b0
  have hB := hb.below b0
  refine (Feed_ok hF hB (fun W hW => hR.src rfl hW) hl hM hn).mono fun e w' => ?_
  rintro ⟨pv, v', rfl, h1, h2, h3, h4, h5, h6⟩
  exact ⟨pv, v', rfl, own_mono h1 b0.size, h2, h3, (Kx.of b0).trans h4, fun k hk => (h5 k hk).imp id fun h => Nat.le_trans b0.size h, h6⟩
theorem conv_n (M : List Nat) (W : World) : (convert 9 33 (.string (sOf M))).run Try.prog W = .ok (.slice (some ⟨W.heap.size, 0, none⟩) M.length (grownCap W M.length 0 5)) (Lib.bytesWorld W 5 (sOf M)) := by
  have := conv_bytes (sOf M) W
  rwa [sOf_size] at this
theorem Held_n {w : World} {B R : Nat} {v : Value} {L : List Nat} {lim er : Int} (h : Fr w B R v L 0 lim er) {n : Nat} (hn : L.length = n) :
    Calls Try.prog 10 #[.pointer (some ⟨R, 0, none⟩)] w fun e w' => e = .returned (.int .i64 (n : Int)) ∧ Below w.heap.size w w' := by
  rw [← hn]
  exact Held_any h
theorem feed_one {w : World} {B R N T t : Nat} {v : Value} {want : Int} {G : List Pcl} (hQ : HdQ (lgZ G) N want T t) (hG : ∀ p ∈ G, Gd p) (hGl : G.length ≤ 40) (h : Fr w B R v [] 0 (lgZ G : Int) 0) (hb : Buf w B v []) :
    Calls Try.prog 12 #[.pointer (some ⟨R, 0, none⟩), .slice (some ⟨w.heap.size, 0, none⟩) (strm G ++ (hdL N t).take (T - 1)).length (grownCap w (strm G ++ (hdL N t).take (T - 1)).length 0 5)] (Lib.bytesWorld w 5 (sOf (strm G ++ (hdL N t).take (T - 1)))) fun e w' =>
      ∃ pp cp v', e = .returned (.tuple #[.slice pp G.length cp, .int .i64 0]) ∧ POwn w' w.heap.size (.slice pp G.length cp) G ∧ Fr w' B R v' ((hdL N t).take (T - 1)) 0 (lgZ G : Int) 0 ∧ Buf w' B v' ((hdL N t).take (T - 1)) ∧ Kx R v.ownBlock w w' := by
  have hc : cutZ (lgZ G : Int) (strm G ++ (hdL N t).take (T - 1)) = (G, szs G, 0) := by
    rw [cut_all _ _ G (fun p hp => ⟨hG p hp, by have := lgZ_le hp; omega⟩), hQ.beg.1]
    simp
  have hlt : ∀ b ∈ strm G ++ (hdL N t).take (T - 1), b < 256 := fun b hb => by
    rcases List.mem_append.1 hb with hb | hb
    · exact strm_lt G b hb
    · exact hdL_lt N t b (List.mem_of_mem_take hb)
  have hsz := szs_bd G hG
  have hlen : (strm G ++ (hdL N t).take (T - 1)).length ≤ 13000 := by rw [List.length_append, strm_length, List.length_take]; have := hd_len N t; omega
  refine (Feed_conv h hb (by rw [List.length_nil]; omega) hlt (by rw [List.nil_append, hc]; show G.length ≤ _; omega)).mono fun e w' => ?_
  unfold FeedP fdL
  rw [List.nil_append, hc]
  rintro ⟨pv, v', rfl, h1, h2, h3, h4, _, _⟩
  obtain ⟨pp, cp, rfl, _⟩ := h1.shape
  have e : (strm G ++ (hdL N t).take (T - 1)).drop (szs G) = (hdL N t).take (T - 1) := List.drop_left' (strm_length G)
  dsimp only at h2 h3
  rw [if_pos rfl, e] at h2 h3
  exact ⟨pp, cp, v', rfl, h1, h2, h3, h4⟩
theorem feed_two {w : World} {B R N T t : Nat} {v : Value} {want : Int} {G : List Pcl} {X : List Nat} (hQ : HdQ (lgZ G) N want T t) (h : Fr w B R v ((hdL N t).take (T - 1)) 0 (lgZ G : Int) 0) (hb : Buf w B v ((hdL N t).take (T - 1))) (hX : ∀ b ∈ X, b < 256) (hXl : X.length ≤ 140737488355300) :
    Calls Try.prog 12 #[.pointer (some ⟨R, 0, none⟩), .slice (some ⟨w.heap.size, 0, none⟩) ((hdL N t).drop (T - 1) ++ X).length (grownCap w ((hdL N t).drop (T - 1) ++ X).length 0 5)] (Lib.bytesWorld w 5 (sOf ((hdL N t).drop (T - 1) ++ X))) fun e w' =>
      ∃ pp cp v', e = .returned (.tuple #[.slice pp 0 cp, .int .i64 want]) ∧ Fr w' B R v' [] 0 (lgZ G : Int) want ∧ Kx R v.ownBlock w w' := by
  have hc : cutZ (lgZ G : Int) ((hdL N t).take (T - 1) ++ ((hdL N t).drop (T - 1) ++ X)) = ([], 0, want) := by
    rw [← List.append_assoc, List.take_append_drop]
    exact hQ.no X
  have hlt : ∀ b ∈ (hdL N t).drop (T - 1) ++ X, b < 256 := fun b hb => by
    rcases List.mem_append.1 hb with hb | hb
    · exact hdL_lt N t b (List.mem_of_mem_drop hb)
    · exact hX b hb
  have hlen : ((hdL N t).take (T - 1)).length + ((hdL N t).drop (T - 1) ++ X).length ≤ 140737488355328 := by
    rw [List.length_append, List.length_take, List.length_drop]
    have := hd_len N t
    omega
  refine (Feed_conv h hb hlen hlt (by rw [hc]; exact Nat.zero_le _)).mono fun e w' => ?_
  unfold FeedP fdL
  rw [hc]
  rintro ⟨pv, v', rfl, h1, h2, _, h4, _, _⟩
  obtain ⟨pp, cp, rfl, _⟩ := h1.shape
  dsimp only at h2
  rw [if_neg hQ.wn] at h2
  exact ⟨pp, cp, v', rfl, h2, h4⟩
end Go.Proofs.Ytnicdehbedcdpaa

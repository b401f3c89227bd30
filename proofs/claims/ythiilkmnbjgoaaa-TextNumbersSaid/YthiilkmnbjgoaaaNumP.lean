/- The walk of TextNumbers: its parts. -/
import Derived.Test.YthiilkmnbjgoaaaNMath
import Derived.Deep.DeepCutAuto
namespace Go.Proofs.Ythiilkmnbjgoaaa
open Go.ChangeShapes Go.WideShapes Go.ChangeAt Go.RowKit

theorem enc_utf8 (x : Nat) (h : xmlB (x : Int) = true) : Utf8.encode (x : Int) = sOf (encN x) := by
  have hr : x ≤ 55295 ∨ (57344 ≤ x ∧ x ≤ 1114111) := by unfold xmlB at h; simp at h; omega
  have hv : Utf8.valid (x : Int) = true := by
    unfold Utf8.valid
    simp
    omega
  unfold Utf8.encode encN
  rw [hv]
  simp only [if_true, Int.toNat_natCast]
  split
  · rfl
  · split
    · rfl
    · split <;> rfl
theorem conv_rune (x : Nat) (h : xmlB (x : Int) = true) (w : World) : (convert 21 9 (.int .i32 (x : Int))).run Try.prog w = .ok (.string (sOf (encN x))) w := by
  rw [← enc_utf8 x h]
  simp [convert, run_underlying Try.underlying21, run_underlying Try.underlying9, Conv.intToString]
theorem conv_one (W : World) (g : Nat) (a : Int) (hg : W.heap.size = g) :
    (convert 22 9 (.slice (some ⟨g, 0, none⟩) 1 1)).run Try.prog (W.alloc (.cells #[.int .u8 a] 5)) = .ok (.string (strOfNums [a])) (W.alloc (.cells #[.int .u8 a] 5)) := by
  subst hg
  refine run_convert_bytes_arg _ 22 5 Try.underlying22 Try.underlying5 W.heap.size 0 1 1 [a] rfl (fun i hi => ?_) 9 Try.underlying9
  obtain rfl : i = 0 := by omega
  have : (W.alloc (.cells #[.int .u8 a] 5)).heap[W.heap.size]? = some (.cells #[.int .u8 a] 5) := heap_alloc_new W _
  rw [Nat.zero_add]
  unfold World.cell?
  rw [this]
  rfl
theorem nums_one (v : Nat) : strOfNums [(v : Int)] = sOf [v] := by
  unfold strOfNums sOf
  simp
theorem sOf_cons (c : Nat) (D : List Nat) : sOf [c] ++ sOf D = sOf (c :: D) := by rw [← sOf_append]; rfl
def hexA : Nat → Nat := fun d => [48, 49, 50, 51, 52, 53, 54, 55, 56, 57, 97, 66, 99, 68, 101, 70].getD d 0
def hexAS : ByteArray := ⟨#[48, 49, 50, 51, 52, 53, 54, 55, 56, 57, 97, 66, 99, 68, 101, 70]⟩
theorem hexA_ok : ∀ d, d < 16 → hexA d < 128 ∧ ¬ hexA d = 59 ∧ worth (hexA d) = some d := by decide
theorem hexA_ext : ∀ d, d < 16 → hexAS.extract d (d + 1) = sOf [hexA d] := by
  intro d hd
  apply lOf_inj
  rw [lOf_extract, lOf_sOf _ (by intro b hb; simp at hb; subst hb; have := hexA_ok d hd; omega)]
  have : d = 0 ∨ d = 1 ∨ d = 2 ∨ d = 3 ∨ d = 4 ∨ d = 5 ∨ d = 6 ∨ d = 7 ∨ d = 8 ∨ d = 9 ∨ d = 10 ∨ d = 11 ∨ d = 12 ∨ d = 13 ∨ d = 14 ∨ d = 15 := by omega
  rcases this with rfl | rfl | rfl | rfl | rfl | rfl | rfl | rfl | rfl | rfl | rfl | rfl | rfl | rfl | rfl | rfl <;> rfl
theorem dec_ok (v : Nat) : 48 + v % 10 < 128 ∧ ¬ 48 + v % 10 = 59 ∧ worth (48 + v % 10) = some (v % 10) := by
  refine ⟨by omega, by omega, ?_⟩
  unfold worth
  rw [if_pos (by omega)]
  congr 1
  omega
theorem val_step (b c v x : Nat) (D : List Nat) (hw : worth c = some (v % b)) (h : v * b ^ D.length + valL b D = x) : v / b * b ^ (c :: D).length + valL b (c :: D) = x := by
  have e : valL b (c :: D) = v % b * b ^ D.length + valL b D := by simp [valL, hw]
  rw [e, List.length_cons, Nat.pow_succ, ← h]
  have h1 : v / b * (b ^ D.length * b) = (v / b * b) * b ^ D.length := by rw [Nat.mul_comm (b ^ D.length) b, Nat.mul_assoc]
  rw [h1, ← Nat.add_assoc, ← Nat.add_mul]
  have h2 : v / b * b + v % b = v := by rw [Nat.mul_comm]; exact Nat.div_add_mod v b
  rw [h2]
theorem digL_cons {b c d : Nat} {D : List Nat} (hD : digL b D) (h1 : c < 128 ∧ ¬ c = 59) (hw : worth c = some d) (hd : d < b) : digL b (c :: D) := by
  intro y hy
  rcases List.mem_cons.1 hy with rfl | hy
  · exact ⟨h1.1, h1.2, d, hw, hd⟩
  · exact hD y hy
theorem digL_lt {b : Nat} {D : List Nat} (h : digL b D) : ∀ c ∈ D, c < 256 := fun c hc => by have := (h c hc).1; omega
theorem frL_lt (l : List Nat) (h : ∀ c ∈ l, c < 256) : ∀ c ∈ l.filter (fun c => !(c == 38)), c < 256 ∧ ¬ c = 38 := by
  intro c hc
  rw [List.mem_filter] at hc
  exact ⟨h c hc.1, by simpa using hc.2⟩
/-- The text that is read, as bytes. -/
theorem whole_list (fr mk D : List Nat) (hf : ∀ c ∈ fr, c < 256) (hm : ∀ c ∈ mk, c < 256) (hD : ∀ c ∈ D, c < 256) :
    lOf ((sOf fr ++ ((sOf mk ++ sOf D) ++ ⟨#[59]⟩)) ++ ⟨#[122, 38, 108, 116, 59]⟩) = fr ++ (mk ++ D ++ [59]) ++ [122, 38, 108, 116, 59] := by
  rw [lOf_append, lOf_append, lOf_append, lOf_append, lOf_sOf _ hf, lOf_sOf _ hm, lOf_sOf _ hD]
  rfl
theorem dec_yes (fr D : List Nat) (x : Nat) (hf : ∀ c ∈ fr, c < 256 ∧ ¬ c = 38) (hD : digL 10 D) (hne : D ≠ []) (hx : valL 10 D = x) (hg : xmlB (x : Int) = true) :
    uneN ((sOf fr ++ ((sOf [38, 35] ++ sOf D) ++ ⟨#[59]⟩)) ++ ⟨#[122, 38, 108, 116, 59]⟩) = (fr ++ encN x ++ [122, 60], 0, 0) := by
  have h := whole_list fr [38, 35] D (fun c hc => (hf c hc).1) (by decide) (digL_lt hD)
  have h2 : lOf ((sOf fr ++ ((sOf [38, 35] ++ sOf D) ++ ⟨#[59]⟩)) ++ ⟨#[122, 38, 108, 116, 59]⟩) = fr ++ [38, 35] ++ D ++ 59 :: [122, 38, 108, 116, 59] := by rw [h]; simp
  have he := ent_dec2 h2 hD hne hx
  rw [if_pos hg] at he
  exact une_whole (E := 35 :: (D ++ [59])) (fun c hc => (hf c hc).2) (by rw [h]; simp) (by rw [he]; simp; omega)
theorem dec_no (fr D : List Nat) (x : Nat) (hf : ∀ c ∈ fr, c < 256 ∧ ¬ c = 38) (hD : digL 10 D) (hne : D ≠ []) (hx : valL 10 D = x) (hg : xmlB (x : Int) = false) :
    uneN ((sOf fr ++ ((sOf [38, 35] ++ sOf D) ++ ⟨#[59]⟩)) ++ ⟨#[122, 38, 108, 116, 59]⟩) = ([], 22, fr.length) := by
  have h := whole_list fr [38, 35] D (fun c hc => (hf c hc).1) (by decide) (digL_lt hD)
  have h2 : lOf ((sOf fr ++ ((sOf [38, 35] ++ sOf D) ++ ⟨#[59]⟩)) ++ ⟨#[122, 38, 108, 116, 59]⟩) = fr ++ [38, 35] ++ D ++ 59 :: [122, 38, 108, 116, 59] := by rw [h]; simp
  have he := ent_dec2 h2 hD hne hx
  rw [if_neg (by rw [hg]; decide)] at he
  exact une_whole_no (E := 35 :: (D ++ [59])) (fun c hc => (hf c hc).2) (by rw [h]; simp) he
theorem hex_yes (fr D : List Nat) (x : Nat) (hf : ∀ c ∈ fr, c < 256 ∧ ¬ c = 38) (hD : digL 16 D) (hne : D ≠ []) (hx : valL 16 D = x) (hg : xmlB (x : Int) = true) :
    uneN ((sOf fr ++ ((sOf [38, 35, 120] ++ sOf D) ++ ⟨#[59]⟩)) ++ ⟨#[122, 38, 108, 116, 59]⟩) = (fr ++ encN x ++ [122, 60], 0, 0) := by
  have h := whole_list fr [38, 35, 120] D (fun c hc => (hf c hc).1) (by decide) (digL_lt hD)
  have h2 : lOf ((sOf fr ++ ((sOf [38, 35, 120] ++ sOf D) ++ ⟨#[59]⟩)) ++ ⟨#[122, 38, 108, 116, 59]⟩) = fr ++ [38, 35, 120] ++ D ++ 59 :: [122, 38, 108, 116, 59] := by rw [h]; simp
  have he := ent_hex2 h2 hD hne hx
  rw [if_pos hg] at he
  exact une_whole (E := 35 :: 120 :: (D ++ [59])) (fun c hc => (hf c hc).2) (by rw [h]; simp) (by rw [he]; simp; omega)
theorem hex_no (fr D : List Nat) (x : Nat) (hf : ∀ c ∈ fr, c < 256 ∧ ¬ c = 38) (hD : digL 16 D) (hne : D ≠ []) (hx : valL 16 D = x) (hg : xmlB (x : Int) = false) :
    uneN ((sOf fr ++ ((sOf [38, 35, 120] ++ sOf D) ++ ⟨#[59]⟩)) ++ ⟨#[122, 38, 108, 116, 59]⟩) = ([], 22, fr.length) := by
  have h := whole_list fr [38, 35, 120] D (fun c hc => (hf c hc).1) (by decide) (digL_lt hD)
  have h2 : lOf ((sOf fr ++ ((sOf [38, 35, 120] ++ sOf D) ++ ⟨#[59]⟩)) ++ ⟨#[122, 38, 108, 116, 59]⟩) = fr ++ [38, 35, 120] ++ D ++ 59 :: [122, 38, 108, 116, 59] := by rw [h]; simp
  have he := ent_hex2 h2 hD hne hx
  rw [if_neg (by rw [hg]; decide)] at he
  exact une_whole_no (E := 35 :: 120 :: (D ++ [59])) (fun c hc => (hf c hc).2) (by rw [h]; simp) he
end Go.Proofs.Ythiilkmnbjgoaaa

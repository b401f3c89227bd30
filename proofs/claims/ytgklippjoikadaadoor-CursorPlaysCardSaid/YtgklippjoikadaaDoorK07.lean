/- PPc, CuM. -/
import Derived.Test.YtgklippjoikadaaDoorK06
import Derived.Lib.LazyBuf
import Derived.Lib.SliceRun
namespace Go.Proofs.YtgklippjoikadaaDoor
open Go.ChangeShapes Go.WideShapes Go.ChangeAt Go.RowKit

/-- The byte at place i of a text, 0 behind it. -/
def chF (t : ByteArray) (i : Nat) : Int := (t.data.toList.map fun x => (x.toNat : Int)).getD i 0
theorem size5 : ∀ w, (Go.sizeOf 5).run Tryd.prog w = .ok 1 w := fun _ => by kernel_rfl
theorem zero5 : ∀ w, (zeroValue 5).run Tryd.prog w = .ok (.int .u8 0) w := fun _ => by kernel_rfl
theorem clear_none (w : World) (a : Addr) (c : Nat) (ty : TypeId) : (Builtin.clear_ #[22] ty #[.slice (some a) 0 c]).run Tryd.prog w = .ok (.tuple #[]) w := by
  simp [Builtin.clear_, run_underlying Tryd.underlying22]
theorem rowIs_setCells {b : Nat} {t : TypeId} {n : Nat} : ∀ (vs : List Value) (o : Nat) (f : Nat → Value) (w : World), w.rowIs b t n f → (w.setCells b o vs).rowIs b t n (fun j => if o ≤ j ∧ j < o + vs.length then vs.getD (j - o) (f j) else f j)
  | [], o, f, w, h => h.congr fun j _ => by rw [if_neg (by simp)]
  | v :: vs, o, f, w, h => by
    refine (rowIs_setCells vs (o + 1) _ _ (h.set o v)).congr fun j _ => ?_
    simp only [List.length_cons]
    by_cases e : j = o
    · subst e
      rw [if_neg (by omega), if_pos rfl, if_pos (by omega), Nat.sub_self]; rfl
    · by_cases c : o + 1 ≤ j ∧ j < o + 1 + vs.length
      · have hl : j - (o + 1) < vs.length := by omega
        rw [if_pos c, if_pos (show o ≤ j ∧ j < o + (vs.length + 1) by omega), show j - o = (j - (o + 1)) + 1 by omega]
        simp [List.getD, List.getElem?_eq_getElem hl]
      · rw [if_neg c, if_neg e, if_neg (by omega)]
theorem tl_len (t : ByteArray) : t.data.toList.length = t.size := Array.length_toList
theorem bytes_len (t : ByteArray) : (t.data.toList.map fun x => Value.int .u8 (x.toNat : Int)).length = t.size := by rw [List.length_map, tl_len]
theorem bytes_get (t : ByteArray) (i : Nat) (d : Value) (h : i < t.size) : (t.data.toList.map fun x => Value.int .u8 (x.toNat : Int)).getD i d = .int .u8 (chF t i) := by
  have h2 : i < t.data.toList.length := by rw [tl_len]; exact h
  simp only [chF, List.getD, List.getElem?_map, List.getElem?_eq_getElem h2, Option.map_some, Option.getD_some]
theorem chF_out (t : ByteArray) (i : Nat) (h : t.size ≤ i) : chF t i = 0 := by
  have h2 : t.data.toList.length ≤ i := by rw [tl_len]; exact h
  simp only [chF, List.getD, List.getElem?_map, List.getElem?_eq_none h2, Option.map_none, Option.getD_none]
theorem chF_bd (t : ByteArray) (i : Nat) : 0 ≤ chF t i ∧ chF t i ≤ 255 := by
  by_cases h : i < t.data.toList.length
  · simp only [chF, List.getD, List.getElem?_map, List.getElem?_eq_getElem h, Option.map_some, Option.getD_some]
    have := (t.data.toList[i]).toNat_lt
    omega
  · rw [chF_out t i (by rw [tl_len] at h; omega)]; omega
/-- Of what was there only block g may have turned. -/
structure Only (g : Nat) (w w' : World) : Prop where
  os : w'.os = w.os
  tape : w'.tape = w.tape
  output : w'.output = w.output
  size : w.heap.size ≤ w'.heap.size
  block : ∀ k, k < w.heap.size → k ≠ g → w'.heap[k]? = w.heap[k]?
theorem Only.refl (g : Nat) (w : World) : Only g w w := ⟨rfl, rfl, rfl, Nat.le_refl _, fun _ _ _ => rfl⟩
theorem only_setCells {g : Nat} {a : World} : ∀ (vs : List Value) (o : Nat) (w : World), Only g a w → Only g a (w.setCells g o vs)
  | [], _, _, h => h
  | v :: r, o, w, h => only_setCells r (o + 1) _ ⟨h.os, h.tape, h.output, by simpa [World.setCell] using h.size, fun k hk hg => (Below.heap_setCell w _ _ k hg).trans (h.block k hk hg)⟩
theorem Only.of_below {g : Nat} {w w' : World} (h : Below w.heap.size w w') : Only g w w' := ⟨h.os, h.tape, h.output, h.size, fun k hk _ => h.block k hk⟩
theorem Only.trans_below {g : Nat} {a w w' : World} (h : Only g a w) (hb : Below w.heap.size w w') : Only g a w' :=
  ⟨hb.os.trans h.os, hb.tape.trans h.tape, hb.output.trans h.output, Nat.le_trans h.size hb.size, fun k hk hg => (hb.block k (Nat.lt_of_lt_of_le hk h.size)).trans (h.block k hk hg)⟩
theorem Only.below {g B : Nat} {w w' : World} (h : Only g w w') (hg : B ≤ g) (hB : B ≤ w.heap.size) : Below B w w' := ⟨h.os, h.tape, h.output, h.size, fun k hk => h.block k (by omega) (by omega)⟩
theorem Only.row {g b : Nat} {w w' : World} {t : TypeId} {n : Nat} {f : Nat → Value} (h : Only g w w') (R : w.rowIs b t n f) (hb : b ≠ g) : w'.rowIs b t n f := R.of_block (h.block b R.lt hb)
theorem Only.cell {g : Nat} {w w' : World} (h : Only g w w') {p : Addr} (hp : p.block < w.heap.size) (hb : p.block ≠ g) : w'.cell? p = w.cell? p := World.cell?_of_block (w := w) (h.block p.block hp hb)
theorem KT.only {g : Nat} {w w' : World} (h : KT w) (o : Only g w w') (hg : 0 < g) : KT w' := h.below (B := 1) (by omega) (o.below hg h.pos)
set_option maxHeartbeats 1000000 in
theorem PutChars_lt (g len cap at' n : Nat) (t : ByteArray) (fi : Nat → Int) (w : World) (R : w.rowIs g 5 cap (fun j => .int .u8 (fi j))) (hat : at' + n ≤ len) (hlc : len ≤ cap) (hl : len ≤ 9223372036854775700) (ht : t.size < n) :
    Calls Tryd.prog 55 #[.slice (some ⟨g, 0, none⟩) len cap, .int .i64 at', .int .i64 n, .string t] w fun e w' => e = .returned (.int .i64 0) ∧ Only g w w' ∧
      w'.rowIs g 5 cap (fun j => .int .u8 (if at' ≤ j ∧ j < at' + n then chF t (j - at') else fi j)) := by
  have hin : inB len at' n = true := inB_yes (by omega)
  have l1 : (at' : Int) + (n : Int) ≤ (cap : Int) := by omega
  have hcp := fun ty c => run_copy_string (P := Tryd.prog) w 22 9 ty 5 g at' n c t Tryd.underlying22 size5 (by omega) (fun j hj => by rw [R.cell (i := at' + j) (by omega)]; rfl) (fun j _ => R.frozen _)
  have R1 := rowIs_setCells (t.data.toList.map fun x => Value.int .u8 (x.toNat : Int)) at' _ w R
  have B1 : Only g w (w.setCells g at' (t.data.toList.map fun x => Value.int .u8 (x.toNat : Int))) := only_setCells _ _ _ (Only.refl _ _)
  have hcl := fun ty c => Lib.run_clear_slice (P := Tryd.prog) (w.setCells g at' (t.data.toList.map fun x => Value.int .u8 (x.toNat : Int))) 22 5 ty (.int .u8 0) Tryd.underlying22 zero5 rfl rfl g (at' + t.size) (n - t.size) c (by omega)
    (fun j hj => by rw [R1.cell (i := at' + t.size + j) (by omega)]; rfl) (fun j _ => R1.frozen _)
  have R2 := rowIs_setCells (List.replicate (n - t.size) (.int .u8 0)) (at' + t.size) _ _ R1
  have B2 : Only g w ((w.setCells g at' (t.data.toList.map fun x => Value.int .u8 (x.toNat : Int))).setCells g (at' + t.size) (List.replicate (n - t.size) (.int .u8 0))) := only_setCells _ _ _ B1
  go_enter Tryd.func55, Tryd.ntmps55
  go_wp2_with (go_at_call 67; refine (within_in _ _ _ _ _ _ (by omega) (by omega)).mono ?_; rintro e w1 ⟨rfl, rfl⟩)
  go_ret
  refine ⟨rfl, B2, R2.congr fun j _ => ?_⟩
  rw [bytes_len, List.length_replicate]
  by_cases c1 : at' + t.size ≤ j ∧ j < at' + t.size + (n - t.size)
  · rw [if_pos c1, if_pos (show at' ≤ j ∧ j < at' + n by omega), chF_out t _ (by omega)]
    simp [List.getD, show j - (at' + t.size) < n - t.size by omega]
  · rw [if_neg c1]
    by_cases c2 : at' ≤ j ∧ j < at' + t.size
    · rw [if_pos c2, if_pos (show at' ≤ j ∧ j < at' + n by omega), bytes_get t _ _ (by omega)]
    · rw [if_neg c2, if_neg (show ¬ (at' ≤ j ∧ j < at' + n) by omega)]
set_option maxRecDepth 20000 in
set_option maxHeartbeats 1000000 in
theorem PutChars_eq (g len cap at' : Nat) (t : ByteArray) (fi : Nat → Int) (w : World) (R : w.rowIs g 5 cap (fun j => .int .u8 (fi j))) (hat : at' + t.size ≤ len) (hlc : len ≤ cap) (hl : len ≤ 9223372036854775700) :
    Calls Tryd.prog 55 #[.slice (some ⟨g, 0, none⟩) len cap, .int .i64 at', .int .i64 (t.size : Int), .string t] w fun e w' => e = .returned (.int .i64 0) ∧ Only g w w' ∧
      w'.rowIs g 5 cap (fun j => .int .u8 (if at' ≤ j ∧ j < at' + t.size then chF t (j - at') else fi j)) := by
  have hin : inB len at' t.size = true := inB_yes (by omega)
  have l1 : (at' : Int) + (t.size : Int) ≤ (cap : Int) := by omega
  by_cases hce : at' = cap
  · have hz : t.size = 0 := by omega
    have R1 : ∀ o : Nat, (w.setCells g o (t.data.toList.map fun x => Value.int .u8 (x.toNat : Int))).rowIs g 5 cap (fun j => .int .u8 (if at' ≤ j ∧ j < at' + t.size then chF t (j - at') else fi j)) := fun o =>
      (rowIs_setCells (t.data.toList.map fun x => Value.int .u8 (x.toNat : Int)) o _ w R).congr fun j _ => by rw [bytes_len, if_neg (by omega), if_neg (by omega)]
    have B1 : ∀ o : Nat, Only g w (w.setCells g o (t.data.toList.map fun x => Value.int .u8 (x.toNat : Int))) := fun o => only_setCells _ _ _ (Only.refl _ _)
    have hcp := fun ty c o => run_copy_string (P := Tryd.prog) w 22 9 ty 5 g o 0 c t Tryd.underlying22 size5 (by omega) (fun j hj => by omega) (fun j hj => by omega)
    have hcl := fun (W : World) ty a c => clear_none W a c ty
    obtain rfl : len = cap := by omega
    rw [hz] at hcp
    have ez : goInt ((0 : Nat) : Int) = .int .i64 0 := rfl
    rw [ez] at hcp
    have hin2 : inB len len 0 = true := inB_yes (by omega)
    subst hce
    rw [hz]
    rw [hz] at R1
    have g0 : ¬ (0 : Int) < 0 := by omega
    go_enter Tryd.func55, Tryd.ntmps55
    go_wp2_with (go_at_call 67; refine (within_in _ _ _ _ _ _ (by omega) (by omega)).mono ?_; rintro e w1 ⟨rfl, rfl⟩)
    go_ret
    exact ⟨rfl, B1 _, R1 _⟩
  · have R1 := (rowIs_setCells (t.data.toList.map fun x => Value.int .u8 (x.toNat : Int)) at' _ w R).congr (g := fun j => .int .u8 (if at' ≤ j ∧ j < at' + t.size then chF t (j - at') else fi j)) fun j _ => by
      rw [bytes_len]
      by_cases c2 : at' ≤ j ∧ j < at' + t.size
      · rw [if_pos c2, if_pos c2, bytes_get t _ _ (by omega)]
      · rw [if_neg c2, if_neg c2]
    have B1 : Only g w (w.setCells g at' (t.data.toList.map fun x => Value.int .u8 (x.toNat : Int))) := only_setCells _ _ _ (Only.refl _ _)
    have hcp := fun ty c => run_copy_string (P := Tryd.prog) w 22 9 ty 5 g at' t.size c t Tryd.underlying22 size5 (by omega) (fun j hj => by rw [R.cell (i := at' + j) (by omega)]; rfl) (fun j _ => R.frozen _)
    have hcl := fun (W : World) ty a c => clear_none W a c ty
    go_enter Tryd.func55, Tryd.ntmps55
    go_wp2_with (go_at_call 67; refine (within_in _ _ _ _ _ _ (by omega) (by omega)).mono ?_; rintro e w1 ⟨rfl, rfl⟩)
    all_goals go_ret
    all_goals exact ⟨rfl, B1, R1⟩
theorem PutChars_no (a : Option Addr) (len cap : Nat) (at' n : Int) (t : ByteArray) (w : World) (_hn : n ≤ 9223372036854775807) (hl : len ≤ 9223372036854775700) (hin : inB len at' n = false) :
    Calls Tryd.prog 55 #[.slice a len cap, .int .i64 at', .int .i64 n, .string t] w fun e w' => e = .returned (.int .i64 11) ∧ w' = w := by
  go_enter Tryd.func55, Tryd.ntmps55
  go_wp2_with (go_at_call 67; refine (within_in _ _ _ _ _ _ (by omega) (by omega)).mono ?_; rintro e w1 ⟨rfl, rfl⟩)
  go_ret
  exact ⟨rfl, rfl⟩
theorem PutChars_long (a : Option Addr) (len cap : Nat) (at' n : Int) (t : ByteArray) (w : World) (_hn : n ≤ 9223372036854775807) (hl : len ≤ 9223372036854775700) (hin : inB len at' n = true) (ht : n < t.size) :
    Calls Tryd.prog 55 #[.slice a len cap, .int .i64 at', .int .i64 n, .string t] w fun e w' => e = .returned (.int .i64 13) ∧ w' = w := by
  go_enter Tryd.func55, Tryd.ntmps55
  go_wp2_with (go_at_call 67; refine (within_in _ _ _ _ _ _ (by omega) (by omega)).mono ?_; rintro e w1 ⟨rfl, rfl⟩)
  go_ret
  exact ⟨rfl, rfl⟩
end Go.Proofs.YtgklippjoikadaaDoor
namespace Go.Proofs.YtgklippjoikadaaDoor
open Go.ChangeShapes Go.WideShapes Go.ChangeAt Go.RowKit

/-- Do n bytes from a place on lie from the start up to the end? -/
def inC (st en : Nat) (at' n : Int) : Bool := decide ((st : Int) ≤ at' ∧ at' + n ≤ en)
theorem inC_yes {st en : Nat} {at' n : Int} (h : (st : Int) ≤ at' ∧ at' + n ≤ en) : inC st en at' n = true := decide_eq_true h
theorem inC_no {st en : Nat} {at' n : Int} (h : ¬ ((st : Int) ≤ at' ∧ at' + n ≤ en)) : inC st en at' n = false := decide_eq_false h
theorem inC_of {st en : Nat} {at' n : Int} (h : inC st en at' n = true) : (st : Int) ≤ at' ∧ at' + n ≤ en := of_decide_eq_true h
def getE (st en : Nat) (at' p : Int) : Int := if sz p = 0 then 10 else if inC st en at' (sz p) then 0 else 171
/-- The word that stands at a place. -/
def wrd (hi : Bool) (f : Nat → Int) (at' : Nat) (p : Int) : Int := wordF (sz p) (rd p) (accF hi (sz p).toNat (fun k => f (at' + k)) (sz p).toNat)
def getW (hi : Bool) (st en : Nat) (f : Nat → Int) (at' p : Int) : Int := if getE st en at' p = 0 then wrd hi f at'.toNat p else 0
def putE (st en : Nat) (at' p x : Int) : Int := if sz p = 0 then 10 else if fitsF (sz p) (rd p) x then (if inC st en at' (sz p) then 0 else 171) else 12
/-- A word's bytes laid at a place. -/
def pb (hi : Bool) (f : Nat → Int) (at' : Nat) (p x : Int) : Nat → Int := fun j => if at' ≤ j ∧ j < at' + (sz p).toNat then byteF hi (sz p).toNat x (j - at') else f j
def putF (hi : Bool) (st en : Nat) (f : Nat → Int) (at' p x : Int) : Nat → Int := if putE st en at' p x = 0 then pb hi f at'.toNat p x else f
def chE (st en : Nat) (at' n : Int) : Int := if n < 0 then 1 else if inC st en at' n then 0 else 171
def chT (st en : Nat) (f : Nat → Int) (at' n : Int) : ByteArray := if chE st en at' n = 0 then textF f at'.toNat n.toNat else ByteArray.empty
def setE (st en : Nat) (at' n : Int) (t : ByteArray) : Int := if n < 0 then 1 else if inC st en at' n then (if (t.size : Int) ≤ n then 0 else 13) else 171
/-- A text laid into n bytes, zeros behind it. -/
def lay (f : Nat → Int) (at' n : Nat) (t : ByteArray) : Nat → Int := fun j => if at' ≤ j ∧ j < at' + n then chF t (j - at') else f j
def setF (st en : Nat) (f : Nat → Int) (at' n : Int) (t : ByteArray) : Nat → Int := if setE st en at' n t = 0 then lay f at'.toNat n.toNat t else f
def clE (len en : Nat) (n : Int) : Int := if n < 0 then 1 else if (len : Int) - en < n then 11 else 0
def clN (len en : Nat) (n : Int) : Nat := if clE len en n = 0 then en + n.toNat else en
def clP (len en : Nat) (n : Int) : Int := if clE len en n = 0 then en else 0
/-- A number of a header, a dimension or a length, and its spot. -/
structure Nb where
  p : Int
  off : Int
  v : Int
def goodB (size p off : Int) : Bool := decide ((p = 5 ∨ p = 6 ∨ p = 7) ∧ 0 ≤ off ∧ off ≤ size - sz p)
def goods (size : Int) (l : List (Int × Int)) : Bool := decide (1 ≤ size ∧ size ≤ 65535) && l.all fun s => goodB size s.1 s.2
def over (ns : List Nb) : Bool := ns.any fun n => decide (mx n.p < n.v)
def wrE (len en : Nat) (size : Int) (ns : List Nb) : Int := if over ns then 12 else clE len en size
/-- The numbers laid, one behind the other. -/
def puts (hi : Bool) (st en : Nat) (b : Nat) (f : Nat → Int) (ns : List Nb) : Nat → Int := ns.foldl (fun f n => putF hi st en f (b + n.off) n.p n.v) f
def wrF (hi : Bool) (len st en : Nat) (f : Nat → Int) (size : Int) (ns : List Nb) : Nat → Int := if wrE len en size ns = 0 then puts hi st (en + size.toNat) en (lay f en size.toNat ByteArray.empty) ns else f
def wrN (len en : Nat) (size : Int) (ns : List Nb) : Nat := if wrE len en size ns = 0 then en + size.toNat else en

theorem size_cases (p : Int) (h : p = 5 ∨ p = 6 ∨ p = 7) : (sz p = 1 ∨ sz p = 2 ∨ sz p = 4) ∧ rd p = 0 := by rcases h with rfl | rfl | rfl <;> exact ⟨by decide, rfl⟩
theorem sz_cases (p : Int) : sz p = 0 ∨ sz p = 1 ∨ sz p = 2 ∨ sz p = 4 ∨ sz p = 8 := by have := kok p; unfold KOk at this; omega
theorem clE_cases (len en : Nat) (n : Int) : (clE len en n = 1 ∧ n < 0) ∨ (clE len en n = 11 ∧ 0 ≤ n ∧ (len : Int) < en + n) ∨ (clE len en n = 0 ∧ 0 ≤ n ∧ (en : Int) + n ≤ len) := by
  unfold clE
  by_cases h : n < 0
  · rw [if_pos h]; exact .inl ⟨rfl, h⟩
  · rw [if_neg h]
    by_cases h2 : (len : Int) - en < n
    · rw [if_pos h2]; exact .inr (.inl ⟨rfl, by omega, by omega⟩)
    · rw [if_neg h2]; exact .inr (.inr ⟨rfl, by omega, by omega⟩)
theorem textF_size (f : Nat → Int) (a n : Nat) : (textF f a n).size = n := by unfold textF; rw [strOfNums_size]; simp
theorem textF_congr {f g : Nat → Int} {a n : Nat} (h : ∀ j, a ≤ j → j < a + n → f j = g j) : textF f a n = textF g a n := by
  unfold textF
  congr 1
  exact List.map_congr_left fun i hi => h _ (by omega) (by have := List.mem_range.1 hi; omega)
theorem accF_congr (hi : Bool) (s : Nat) {f g : Nat → Int} : ∀ k, (∀ j, j < k → f j = g j) → accF hi s f k = accF hi s g k
  | 0, _ => rfl
  | k + 1, h => by
    show accF hi s f k + f k * _ = accF hi s g k + g k * _
    rw [accF_congr hi s k fun j hj => h j (by omega), h k (by omega)]
theorem wrd_congr {hi : Bool} {f g : Nat → Int} {a : Nat} {p : Int} (h : ∀ j, a ≤ j → j < a + (sz p).toNat → f j = g j) : wrd hi f a p = wrd hi g a p := by
  unfold wrd
  rw [accF_congr hi _ _ fun j hj => h (a + j) (by omega) (by omega)]
theorem pb_bd (hi : Bool) {f : Nat → Int} (hf : ∀ j, 0 ≤ f j ∧ f j ≤ 255) (a : Nat) (p x : Int) : ∀ j, 0 ≤ pb hi f a p x j ∧ pb hi f a p x j ≤ 255 := fun j => by
  unfold pb
  split
  · exact byteF_bd _ _ _ _
  · exact hf j
theorem lay_bd {f : Nat → Int} (hf : ∀ j, 0 ≤ f j ∧ f j ≤ 255) (a n : Nat) (t : ByteArray) : ∀ j, 0 ≤ lay f a n t j ∧ lay f a n t j ≤ 255 := fun j => by
  unfold lay
  split
  · exact chF_bd _ _
  · exact hf j
theorem putF_bd (hi : Bool) (st en : Nat) {f : Nat → Int} (hf : ∀ j, 0 ≤ f j ∧ f j ≤ 255) (a p x : Int) : ∀ j, 0 ≤ putF hi st en f a p x j ∧ putF hi st en f a p x j ≤ 255 := fun j => by
  unfold putF
  split
  · exact pb_bd hi hf _ _ _ j
  · exact hf j
theorem puts_bd (hi : Bool) (st en b : Nat) : ∀ (ns : List Nb) {f : Nat → Int} (_ : ∀ j, 0 ≤ f j ∧ f j ≤ 255), ∀ j, 0 ≤ puts hi st en b f ns j ∧ puts hi st en b f ns j ≤ 255
  | [], _, hf => hf
  | _ :: ns, _, hf => puts_bd hi st en b ns (putF_bd hi st en hf _ _ _)
/-- A word laid outside of the message changes nothing there. -/
theorem putF_out {hi : Bool} {st en : Nat} {f : Nat → Int} {a p x : Int} {j : Nat} (h : j < st ∨ en ≤ j) : putF hi st en f a p x j = f j := by
  unfold putF
  split
  · rename_i e
    have : inC st en a (sz p) = true := by
      unfold putE at e
      by_cases h0 : sz p = 0
      · rw [if_pos h0] at e; cases e
      · rw [if_neg h0] at e
        by_cases h1 : fitsF (sz p) (rd p) x = true
        · rw [if_pos h1] at e
          by_cases h2 : inC st en a (sz p) = true
          · exact h2
          · rw [if_neg h2] at e; cases e
        · rw [if_neg h1] at e; cases e
    have h3 := inC_of this
    have := sz_cases p
    unfold pb
    rw [if_neg (by omega)]
  · rfl
theorem puts_out {hi : Bool} {st en b : Nat} {j : Nat} (h : j < st ∨ en ≤ j) : ∀ (ns : List Nb) (f : Nat → Int), puts hi st en b f ns j = f j
  | [], _ => rfl
  | _ :: ns, _ => (puts_out h ns _).trans (putF_out h)
theorem putF_congr {hi : Bool} {st en : Nat} {f g : Nat → Int} {a p x : Int} {N : Nat} (h : ∀ j, j < N → f j = g j) : ∀ j, j < N → putF hi st en f a p x j = putF hi st en g a p x j := fun j hj => by
  unfold putF pb
  split
  · show (if _ then _ else f j) = if _ then _ else g j
    rw [h j hj]
  · exact h j hj
theorem puts_congr {hi : Bool} {st en b : Nat} {N : Nat} : ∀ (ns : List Nb) {f g : Nat → Int} (_ : ∀ j, j < N → f j = g j), ∀ j, j < N → puts hi st en b f ns j = puts hi st en b g ns j
  | [], _, _, h => h
  | _ :: ns, _, _, h => puts_congr ns (putF_congr h)
theorem lay_congr {f g : Nat → Int} {a n : Nat} {t : ByteArray} {N : Nat} (h : ∀ j, j < N → f j = g j) : ∀ j, j < N → lay f a n t j = lay g a n t j := fun j hj => by
  show (if _ then _ else f j) = if _ then _ else g j
  rw [h j hj]
end Go.Proofs.YtgklippjoikadaaDoor

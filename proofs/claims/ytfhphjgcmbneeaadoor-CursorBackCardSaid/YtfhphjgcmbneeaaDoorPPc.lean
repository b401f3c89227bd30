/- PutChars. -/
import Derived.Test.YtfhphjgcmbneeaaDoorPCh
import Derived.Lib.LazyBuf
import Derived.Lib.SliceRun
namespace Go.Proofs.YtfhphjgcmbneeaaDoor
open Go.ChangeShapes Go.WideShapes Go.ChangeAt Go.RowKit

/-- The byte at place i of a text, 0 behind it. -/
def chF (t : ByteArray) (i : Nat) : Int := (t.data.toList.map fun x => (x.toNat : Int)).getD i 0
theorem size5 : ∀ w, (Go.sizeOf 5).run Tryd.prog w = .ok 1 w := fun _ => by kernel_rfl
theorem zero5 : ∀ w, (zeroValue 5).run Tryd.prog w = .ok (.int .u8 0) w := fun _ => by kernel_rfl
theorem clear_none (w : World) (a : Addr) (c : Nat) (ty : TypeId) : (Builtin.clear_ #[22] ty #[.slice (some a) 0 c]).run Tryd.prog w = .ok (.tuple #[]) w := by
  simp [Builtin.clear_, run_underlying Tryd.underlying22]
theorem rowIs_setCells {b : Nat} {t : TypeId} {n : Nat} : ∀ (vs : List Value) (o : Nat) (f : Nat → Value) (w : World), w.rowIs b t n f → (w.setCells b o vs).rowIs b t n (fun j => if o ≤ j ∧ j < o + vs.length then vs.getD (j - o) (f j) else f j)
  | [], o, f, w, h => h.congr fun j _ => by rw [if_neg (by simp)]
  | v :: vs, o, f, w, h => by
    refine (rowIs_setCells vs (o + 1) _ _ (h.set o v)).congr fun j _ => ?_
    simp only [List.length_cons]
    by_cases e : j = o
    · subst e
      rw [if_neg (by omega), if_pos rfl, if_pos (by omega), Nat.sub_self]; rfl
    · by_cases c : o + 1 ≤ j ∧ j < o + 1 + vs.length
      · have hl : j - (o + 1) < vs.length := by omega
        rw [if_pos c, if_pos (show o ≤ j ∧ j < o + (vs.length + 1) by omega), show j - o = (j - (o + 1)) + 1 by omega]
        simp [List.getD, List.getElem?_eq_getElem hl]
      · rw [if_neg c, if_neg e, if_neg (by omega)]
theorem tl_len (t : ByteArray) : t.data.toList.length = t.size := Array.length_toList
theorem bytes_len (t : ByteArray) : (t.data.toList.map fun x => Value.int .u8 (x.toNat : Int)).length = t.size := by rw [List.length_map, tl_len]
theorem bytes_get (t : ByteArray) (i : Nat) (d : Value) (h : i < t.size) : (t.data.toList.map fun x => Value.int .u8 (x.toNat : Int)).getD i d = .int .u8 (chF t i) := by
  have h2 : i < t.data.toList.length := by rw [tl_len]; exact h
  simp only [chF, List.getD, List.getElem?_map, List.getElem?_eq_getElem h2, Option.map_some, Option.getD_some]
theorem chF_out (t : ByteArray) (i : Nat) (h : t.size ≤ i) : chF t i = 0 := by
  have h2 : t.data.toList.length ≤ i := by rw [tl_len]; exact h
  simp only [chF, List.getD, List.getElem?_map, List.getElem?_eq_none h2, Option.map_none, Option.getD_none]
theorem chF_bd (t : ByteArray) (i : Nat) : 0 ≤ chF t i ∧ chF t i ≤ 255 := by
  by_cases h : i < t.data.toList.length
  · simp only [chF, List.getD, List.getElem?_map, List.getElem?_eq_getElem h, Option.map_some, Option.getD_some]
    have := (t.data.toList[i]).toNat_lt
    omega
  · rw [chF_out t i (by rw [tl_len] at h; omega)]; omega
/-- Of what was there only block g may have turned. -/
structure Only (g : Nat) (w w' : World) : Prop where
  os : w'.os = w.os
  tape : w'.tape = w.tape
  output : w'.output = w.output
  size : w.heap.size ≤ w'.heap.size
  block : ∀ k, k < w.heap.size → k ≠ g → w'.heap[k]? = w.heap[k]?
theorem Only.refl (g : Nat) (w : World) : Only g w w := ⟨rfl, rfl, rfl, Nat.le_refl _, fun _ _ _ => rfl⟩
theorem only_setCells {g : Nat} {a : World} : ∀ (vs : List Value) (o : Nat) (w : World), Only g a w → Only g a (w.setCells g o vs)
  | [], _, _, h => h
  | v :: r, o, w, h => only_setCells r (o + 1) _ ⟨h.os, h.tape, h.output, by simpa [World.setCell] using h.size, fun k hk hg => (Below.heap_setCell w _ _ k hg).trans (h.block k hk hg)⟩
theorem Only.of_below {g : Nat} {w w' : World} (h : Below w.heap.size w w') : Only g w w' := ⟨h.os, h.tape, h.output, h.size, fun k hk _ => h.block k hk⟩
theorem Only.trans_below {g : Nat} {a w w' : World} (h : Only g a w) (hb : Below w.heap.size w w') : Only g a w' :=
  ⟨hb.os.trans h.os, hb.tape.trans h.tape, hb.output.trans h.output, Nat.le_trans h.size hb.size, fun k hk hg => (hb.block k (Nat.lt_of_lt_of_le hk h.size)).trans (h.block k hk hg)⟩
theorem Only.below {g B : Nat} {w w' : World} (h : Only g w w') (hg : B ≤ g) (hB : B ≤ w.heap.size) : Below B w w' := ⟨h.os, h.tape, h.output, h.size, fun k hk => h.block k (by omega) (by omega)⟩
theorem Only.row {g b : Nat} {w w' : World} {t : TypeId} {n : Nat} {f : Nat → Value} (h : Only g w w') (R : w.rowIs b t n f) (hb : b ≠ g) : w'.rowIs b t n f := R.of_block (h.block b R.lt hb)
theorem Only.cell {g : Nat} {w w' : World} (h : Only g w w') {p : Addr} (hp : p.block < w.heap.size) (hb : p.block ≠ g) : w'.cell? p = w.cell? p := World.cell?_of_block (w := w) (h.block p.block hp hb)
theorem KT.only {g : Nat} {w w' : World} (h : KT w) (o : Only g w w') (hg : 0 < g) : KT w' := h.below (B := 1) (by omega) (o.below hg h.pos)
set_option maxHeartbeats 1000000 in
theorem PutChars_lt (g len cap at' n : Nat) (t : ByteArray) (fi : Nat → Int) (w : World) (R : w.rowIs g 5 cap (fun j => .int .u8 (fi j))) (hat : at' + n ≤ len) (hlc : len ≤ cap) (hl : len ≤ 9223372036854775700) (ht : t.size < n) :
    Calls Tryd.prog 55 #[.slice (some ⟨g, 0, none⟩) len cap, .int .i64 at', .int .i64 n, .string t] w fun e w' => e = .returned (.int .i64 0) ∧ Only g w w' ∧
      w'.rowIs g 5 cap (fun j => .int .u8 (if at' ≤ j ∧ j < at' + n then chF t (j - at') else fi j)) := by
  have hin : inB len at' n = true := inB_yes (by omega)
  have l1 : (at' : Int) + (n : Int) ≤ (cap : Int) := by omega
  have hcp := fun ty c => run_copy_string (P := Tryd.prog) w 22 9 ty 5 g at' n c t Tryd.underlying22 size5 (by omega) (fun j hj => by rw [R.cell (i := at' + j) (by omega)]; rfl) (fun j _ => R.frozen _)
  have R1 := rowIs_setCells (t.data.toList.map fun x => Value.int .u8 (x.toNat : Int)) at' _ w R
  have B1 : Only g w (w.setCells g at' (t.data.toList.map fun x => Value.int .u8 (x.toNat : Int))) := only_setCells _ _ _ (Only.refl _ _)
  have hcl := fun ty c => Lib.run_clear_slice (P := Tryd.prog) (w.setCells g at' (t.data.toList.map fun x => Value.int .u8 (x.toNat : Int))) 22 5 ty (.int .u8 0) Tryd.underlying22 zero5 rfl rfl g (at' + t.size) (n - t.size) c (by omega)
    (fun j hj => by rw [R1.cell (i := at' + t.size + j) (by omega)]; rfl) (fun j _ => R1.frozen _)
  have R2 := rowIs_setCells (List.replicate (n - t.size) (.int .u8 0)) (at' + t.size) _ _ R1
  have B2 : Only g w ((w.setCells g at' (t.data.toList.map fun x => Value.int .u8 (x.toNat : Int))).setCells g (at' + t.size) (List.replicate (n - t.size) (.int .u8 0))) := only_setCells _ _ _ B1
  go_enter Tryd.func55, Tryd.ntmps55
  go_wp2_with (go_at_call 54; refine (within_in _ _ _ _ _ _ (by omega) (by omega)).mono ?_; rintro e w1 ⟨rfl, rfl⟩)
  go_ret
  refine ⟨rfl, B2, R2.congr fun j _ => ?_⟩
  rw [bytes_len, List.length_replicate]
  by_cases c1 : at' + t.size ≤ j ∧ j < at' + t.size + (n - t.size)
  · rw [if_pos c1, if_pos (show at' ≤ j ∧ j < at' + n by omega), chF_out t _ (by omega)]
    simp [List.getD, show j - (at' + t.size) < n - t.size by omega]
  · rw [if_neg c1]
    by_cases c2 : at' ≤ j ∧ j < at' + t.size
    · rw [if_pos c2, if_pos (show at' ≤ j ∧ j < at' + n by omega), bytes_get t _ _ (by omega)]
    · rw [if_neg c2, if_neg (show ¬ (at' ≤ j ∧ j < at' + n) by omega)]
set_option maxRecDepth 20000 in
set_option maxHeartbeats 1000000 in
theorem PutChars_eq (g len cap at' : Nat) (t : ByteArray) (fi : Nat → Int) (w : World) (R : w.rowIs g 5 cap (fun j => .int .u8 (fi j))) (hat : at' + t.size ≤ len) (hlc : len ≤ cap) (hl : len ≤ 9223372036854775700) :
    Calls Tryd.prog 55 #[.slice (some ⟨g, 0, none⟩) len cap, .int .i64 at', .int .i64 (t.size : Int), .string t] w fun e w' => e = .returned (.int .i64 0) ∧ Only g w w' ∧
      w'.rowIs g 5 cap (fun j => .int .u8 (if at' ≤ j ∧ j < at' + t.size then chF t (j - at') else fi j)) := by
  have hin : inB len at' t.size = true := inB_yes (by omega)
  have l1 : (at' : Int) + (t.size : Int) ≤ (cap : Int) := by omega
  by_cases hce : at' = cap
  · have hz : t.size = 0 := by omega
    have R1 : ∀ o : Nat, (w.setCells g o (t.data.toList.map fun x => Value.int .u8 (x.toNat : Int))).rowIs g 5 cap (fun j => .int .u8 (if at' ≤ j ∧ j < at' + t.size then chF t (j - at') else fi j)) := fun o =>
      (rowIs_setCells (t.data.toList.map fun x => Value.int .u8 (x.toNat : Int)) o _ w R).congr fun j _ => by rw [bytes_len, if_neg (by omega), if_neg (by omega)]
    have B1 : ∀ o : Nat, Only g w (w.setCells g o (t.data.toList.map fun x => Value.int .u8 (x.toNat : Int))) := fun o => only_setCells _ _ _ (Only.refl _ _)
    have hcp := fun ty c o => run_copy_string (P := Tryd.prog) w 22 9 ty 5 g o 0 c t Tryd.underlying22 size5 (by omega) (fun j hj => by omega) (fun j hj => by omega)
    have hcl := fun (W : World) ty a c => clear_none W a c ty
    obtain rfl : len = cap := by omega
    rw [hz] at hcp
    have ez : goInt ((0 : Nat) : Int) = .int .i64 0 := rfl
    rw [ez] at hcp
    have hin2 : inB len len 0 = true := inB_yes (by omega)
    subst hce
    rw [hz]
    rw [hz] at R1
    have g0 : ¬ (0 : Int) < 0 := by omega
    go_enter Tryd.func55, Tryd.ntmps55
    go_wp2_with (go_at_call 54; refine (within_in _ _ _ _ _ _ (by omega) (by omega)).mono ?_; rintro e w1 ⟨rfl, rfl⟩)
    go_ret
    exact ⟨rfl, B1 _, R1 _⟩
  · have R1 := (rowIs_setCells (t.data.toList.map fun x => Value.int .u8 (x.toNat : Int)) at' _ w R).congr (g := fun j => .int .u8 (if at' ≤ j ∧ j < at' + t.size then chF t (j - at') else fi j)) fun j _ => by
      rw [bytes_len]
      by_cases c2 : at' ≤ j ∧ j < at' + t.size
      · rw [if_pos c2, if_pos c2, bytes_get t _ _ (by omega)]
      · rw [if_neg c2, if_neg c2]
    have B1 : Only g w (w.setCells g at' (t.data.toList.map fun x => Value.int .u8 (x.toNat : Int))) := only_setCells _ _ _ (Only.refl _ _)
    have hcp := fun ty c => run_copy_string (P := Tryd.prog) w 22 9 ty 5 g at' t.size c t Tryd.underlying22 size5 (by omega) (fun j hj => by rw [R.cell (i := at' + j) (by omega)]; rfl) (fun j _ => R.frozen _)
    have hcl := fun (W : World) ty a c => clear_none W a c ty
    go_enter Tryd.func55, Tryd.ntmps55
    go_wp2_with (go_at_call 54; refine (within_in _ _ _ _ _ _ (by omega) (by omega)).mono ?_; rintro e w1 ⟨rfl, rfl⟩)
    all_goals go_ret
    all_goals exact ⟨rfl, B1, R1⟩
theorem PutChars_no (a : Option Addr) (len cap : Nat) (at' n : Int) (t : ByteArray) (w : World) (_hn : n ≤ 9223372036854775807) (hl : len ≤ 9223372036854775700) (hin : inB len at' n = false) :
    Calls Tryd.prog 55 #[.slice a len cap, .int .i64 at', .int .i64 n, .string t] w fun e w' => e = .returned (.int .i64 11) ∧ w' = w := by
  go_enter Tryd.func55, Tryd.ntmps55
  go_wp2_with (go_at_call 54; refine (within_in _ _ _ _ _ _ (by omega) (by omega)).mono ?_; rintro e w1 ⟨rfl, rfl⟩)
  go_ret
  exact ⟨rfl, rfl⟩
theorem PutChars_long (a : Option Addr) (len cap : Nat) (at' n : Int) (t : ByteArray) (w : World) (_hn : n ≤ 9223372036854775807) (hl : len ≤ 9223372036854775700) (hin : inB len at' n = true) (ht : n < t.size) :
    Calls Tryd.prog 55 #[.slice a len cap, .int .i64 at', .int .i64 n, .string t] w fun e w' => e = .returned (.int .i64 13) ∧ w' = w := by
  go_enter Tryd.func55, Tryd.ntmps55
  go_wp2_with (go_at_call 54; refine (within_in _ _ _ _ _ _ (by omega) (by omega)).mono ?_; rintro e w1 ⟨rfl, rfl⟩)
  go_ret
  exact ⟨rfl, rfl⟩
end Go.Proofs.YtfhphjgcmbneeaaDoor

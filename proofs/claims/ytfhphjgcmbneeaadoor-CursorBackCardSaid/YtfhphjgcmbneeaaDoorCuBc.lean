/- The law CursorBack: what each call does there. -/
import Derived.Test.YtfhphjgcmbneeaaDoorCuBs
namespace Go.Proofs.YtfhphjgcmbneeaaDoor
open Go.ChangeShapes Go.WideShapes Go.ChangeAt Go.RowKit

section
variable {w W : World} {gB gH gG gL gV A capB c : Nat} {v : Four} {x block count : Int} {s : ByteArray} {big : Bool} {f0 : Nat → Int}
theorem bc_zc (kt : KT w) (hc : w.heap.size ≤ c) : 0 < c := Nat.lt_of_lt_of_le kt.pos hc
theorem bc_head (S : BkS w gB gH gG gL gV v A capB big c A f0 W) (kt : KT w) (hc : w.heap.size ≤ c) (n : gH < c ∧ gG < c ∧ gL < c ∧ gV < c) (ok : BkOk v x block count s) (hv : FourOk v) :
    Calls Tryd.prog 7 #[.pointer (some ⟨c, 0, none⟩), hdV bkH, fourV v] W fun e w' => e = .returned (.int .i64 0) ∧ BkS w gB gH gG gL gV v A capB big c (A + 16) (bk1 big A f0 v) w' := by
  have h := PutHead_any S.cs (kt.below kt.pos S.m.bel) (bc_zc kt hc) (bc_zc kt S.m.bB) bkH v hv
  obtain ⟨e1, e2, e3⟩ := bk_head (hi := big) (A := A) (f0 := f0) ok
  rw [e1, e2, e3] at h
  exact h.mono fun e w' q => ⟨q.1, q.2.1, S.m.cb q.2.2 hc n⟩
theorem bc_claim {f : Nat → Int} (S : BkS w gB gH gG gL gV v A capB big c (A + 16) f W) (hc : w.heap.size ≤ c) (n : gH < c ∧ gG < c ∧ gL < c ∧ gV < c) :
    Calls Tryd.prog 8 #[.pointer (some ⟨c, 0, none⟩), .int .i64 8] W fun e w' => e = .returned (.tuple #[.int .i64 ((A : Int) + 16), .int .i64 0]) ∧ BkS w gB gH gG gL gV v A capB big c (A + 24) f w' := by
  have h := Claim_any S.cs 8
  have hz : clE (A + 300) (A + 16) 8 = 0 ∧ clP (A + 300) (A + 16) 8 = ((A + 16 : Nat) : Int) ∧ clN (A + 300) (A + 16) 8 = A + 16 + 8 := clZ (n := 8) (by omega)
  have e : ((A + 16 : Nat) : Int) = (A : Int) + 16 := by omega
  rw [hz.1, hz.2.1, hz.2.2, e] at h
  exact h.mono fun e w' q => ⟨q.1, q.2.1, S.m.cb q.2.2 hc n⟩
theorem bc_put (S : BkS w gB gH gG gL gV v A capB big c (A + 24) (bk1 big A f0 v) W) (kt : KT w) (hc : w.heap.size ≤ c) (n : gH < c ∧ gG < c ∧ gL < c ∧ gV < c) (ok : BkOk v x block count s) :
    Calls Tryd.prog 9 #[.pointer (some ⟨c, 0, none⟩), .int .i64 ((A : Int) + 16), .int .i64 8, .int .u64 x] W fun e w' => e = .returned (.int .i64 0) ∧ BkS w gB gH gG gL gV v A capB big c (A + 24) (bk2 big A f0 v x) w' := by
  have h := PutCu_any S.cs (kt.below kt.pos S.m.bel) ((A + 16 : Nat) : Int) 8 x ok.x.1 ok.x.2
  obtain ⟨e1, e2⟩ := bk_put (hi := big) (A := A) (f0 := f0) ok
  have e : ((A + 16 : Nat) : Int) = (A : Int) + 16 := by omega
  rw [e1, e2, e] at h
  exact h.mono fun e w' q => ⟨q.1, q.2.1, S.m.cb (Cb.of_only q.2.2 S.cs.lt S.cs.ne) hc n⟩
theorem bc_dim (S : BkS w gB gH gG gL gV v A capB big c (A + 24) (bk2 big A f0 v x) W) (kt : KT w) (hc : w.heap.size ≤ c) (n : gH < c ∧ gG < c ∧ gL < c ∧ gV < c) (ok : BkOk v x block count s) :
    Calls Tryd.prog 10 #[.pointer (some ⟨c, 0, none⟩), tkV bkG none 0, .int .i64 block, .int .i64 count] W fun e w' => e = .returned (.int .i64 0) ∧ BkS w gB gH gG gL gV v A capB big c (A + 31) (bk3 big A f0 v x block count) w' := by
  have h := PutDim_any S.cs (kt.below kt.pos S.m.bel) (bc_zc kt hc) (bc_zc kt S.m.bB) bkG none 0 block count
  obtain ⟨e1, e2, e3⟩ := bk_dim (hi := big) (A := A) (f0 := f0) ok
  rw [e1, e2, e3] at h
  exact h.mono fun e w' q => ⟨q.1, q.2.1, S.m.cb q.2.2 hc n⟩
theorem bc_data (S : BkS w gB gH gG gL gV v A capB big c (A + 31) (bk3 big A f0 v x block count) W) (kt : KT w) (hc : w.heap.size ≤ c) (n : gH < c ∧ gG < c ∧ gL < c ∧ gV < c) (ok : BkOk v x block count s) :
    Calls Tryd.prog 11 #[.pointer (some ⟨c, 0, none⟩), tkV bkL none 0, .string s] W fun e w' => e = .returned (.int .i64 0) ∧ BkS w gB gH gG gL gV v A capB big c (A + 34 + s.size) (bk4 big A f0 v x block count s) w' := by
  have h := PutData_any S.cs (kt.below kt.pos S.m.bel) (bc_zc kt hc) (bc_zc kt S.m.bB) bkL none 0 s (by have := ok.s; omega)
  obtain ⟨e1, e2, e3⟩ := bk_data (hi := big) (A := A) (f0 := f0) ok
  rw [e1, e2, e3] at h
  exact h.mono fun e w' q => ⟨q.1, q.2.1, S.m.cb q.2.2 hc n⟩
theorem bc_ghead (S : BkS w gB gH gG gL gV v A capB big c A (bk4 big A f0 v x block count s) W) (kt : KT w) (hc : w.heap.size ≤ c) (n : gH < c ∧ gG < c ∧ gL < c ∧ gV < c) (ok : BkOk v x block count s) :
    Calls Tryd.prog 14 #[.pointer (some ⟨c, 0, none⟩), hdV bkH] W fun e w' => e = .returned (.tuple #[fourV v, .int .i64 0]) ∧ BkS w gB gH gG gL gV v A capB big c (A + 16) (bk4 big A f0 v x block count s) w' := by
  have h := GetHead_any S.cs (kt.below kt.pos S.m.bel) (bc_zc kt hc) (bc_zc kt S.m.bB) bkH
  obtain ⟨e1, e2, e3, e4, e5, e6⟩ := bk_ghead (hi := big) (A := A) (f0 := f0) ok
  rw [e1, e2, e3, e4, e5, e6] at h
  exact h.mono fun e w' q => ⟨q.1, q.2.1, S.m.cb q.2.2 hc n⟩
theorem bc_get (S : BkS w gB gH gG gL gV v A capB big c (A + 24) (bk4 big A f0 v x block count s) W) (kt : KT w) (ok : BkOk v x block count s) :
    Calls Tryd.prog 15 #[.pointer (some ⟨c, 0, none⟩), .int .i64 ((A : Int) + 16), .int .i64 8] W fun e w' => e = .returned (.tuple #[.int .u64 x, .int .i64 0]) ∧ BkS w gB gH gG gL gV v A capB big c (A + 24) (bk4 big A f0 v x block count s) w' ∧ Below W.heap.size W w' := by
  have h := GetCu_any S.cs (kt.below kt.pos S.m.bel) ((A + 16 : Nat) : Int) 8
  obtain ⟨e1, e2⟩ := bk_get (hi := big) (A := A) (f0 := f0) ok
  have e : ((A + 16 : Nat) : Int) = (A : Int) + 16 := by omega
  rw [e1, e2, e] at h
  exact h.mono fun e w' q => ⟨q.1, ⟨S.cs.below q.2, S.m.below q.2⟩, q.2⟩
theorem bc_gdim (S : BkS w gB gH gG gL gV v A capB big c (A + 24) (bk4 big A f0 v x block count s) W) (kt : KT w) (hc : w.heap.size ≤ c) (n : gH < c ∧ gG < c ∧ gL < c ∧ gV < c) (ok : BkOk v x block count s) :
    Calls Tryd.prog 16 #[.pointer (some ⟨c, 0, none⟩), tkV bkG none 0] W fun e w' => e = .returned (.tuple #[.int .i64 block, .int .i64 count, .int .i64 0]) ∧ BkS w gB gH gG gL gV v A capB big c (A + 31) (bk4 big A f0 v x block count s) w' ∧ Cb c 0 gB W w' := by
  have h := GetDim_any S.cs (kt.below kt.pos S.m.bel) (bc_zc kt hc) (bc_zc kt S.m.bB) bkG none 0
  obtain ⟨e1, e2, e3, e4⟩ := bk_gdim (hi := big) (A := A) (f0 := f0) ok
  rw [e1, e2, e3, e4] at h
  exact h.mono fun e w' q => ⟨q.1, ⟨q.2.1, S.m.cb q.2.2 hc n⟩, q.2.2⟩
theorem bc_gdata (S : BkS w gB gH gG gL gV v A capB big c (A + 31) (bk4 big A f0 v x block count s) W) (kt : KT w) (hc : w.heap.size ≤ c) (n : gH < c ∧ gG < c ∧ gL < c ∧ gV < c) (ok : BkOk v x block count s) :
    Calls Tryd.prog 17 #[.pointer (some ⟨c, 0, none⟩), tkV bkL none 0] W fun e w' => e = .returned (.tuple #[.string s, .int .i64 0]) ∧ BkS w gB gH gG gL gV v A capB big c (A + 34 + s.size) (bk4 big A f0 v x block count s) w' ∧ Cb c 0 gB W w' := by
  have h := GetData_any S.cs (kt.below kt.pos S.m.bel) (bc_zc kt hc) (bc_zc kt S.m.bB) bkL none 0
  obtain ⟨e1, e2, e3⟩ := bk_gdata (hi := big) (A := A) (f0 := f0) ok
  rw [e1, e2, e3] at h
  exact h.mono fun e w' q => ⟨q.1, ⟨q.2.1, S.m.cb q.2.2 hc n⟩, q.2.2⟩
theorem bc_new {f : Nat → Int} (m : BkM w gB gH gG gL gV v W) (R : W.rowIs gB 5 capB (fun j => .int .u8 (f j))) (bd : ∀ j, 0 ≤ f j ∧ f j ≤ 255) (hc : A + 300 ≤ capB) (hA : A ≤ 300) :
    Calls Tryd.prog 6 #[.slice (some ⟨gB, 0, none⟩) (A + 300) capB, .int .i64 A, .int .i64 (ordV big)] W fun e w' => ∃ c, e = .returned (.tuple #[.pointer (some ⟨c, 0, none⟩), .int .i64 0]) ∧ (W.heap.size ≤ c ∧ BkS w gB gH gG gL gV v A capB big c A f w') := by
  have h := New_ok R bd hc (by omega) A (by omega) big
  exact h.mono fun e w' ⟨c, q1, q2, q3, q4⟩ => ⟨c, q1, q2, q3, m.below q4⟩
theorem bc_at {f : Nat → Int} {en : Nat} (S : BkS w gB gH gG gL gV v A capB big c en f W) (n : Nat) :
    Calls Tryd.prog 12 #[.pointer (some ⟨c, 0, none⟩)] (W.drewN n) fun e w' => e = .returned (.int .i64 en) ∧ w' = W.drewN n := At_any (S.cs.below dN)
end
end Go.Proofs.YtfhphjgcmbneeaaDoor

/- CuBm. -/
import Derived.Test.YtgklippjoikadaaDoorK22
namespace Go.Proofs.YtgklippjoikadaaDoor
open Go.ChangeShapes Go.WideShapes Go.ChangeAt Go.RowKit

theorem wrd_pb {hi : Bool} {f : Nat → Int} {a : Nat} {p x : Int} (hp : sz p ≠ 0) (hf : fitsF (sz p) (rd p) x = true) : wrd hi (pb hi f a p x) a p = x := by
  obtain ⟨e1, e2⟩ := sz_toNat hp
  unfold wrd
  have e : accF hi (sz p).toNat (fun k => pb hi f a p x (a + k)) (sz p).toNat = accF hi (sz p).toNat (byteF hi (sz p).toNat x) (sz p).toNat := accF_congr hi _ _ fun j hj => by
    unfold pb
    rw [if_pos (by omega), show a + j - a = j by omega]
  rw [e, acc_bytes hi _ e2, ← e1]
  exact word_back _ _ _ hf
theorem wrd_far {hi : Bool} {f : Nat → Int} {a b : Nat} {p q x : Int} (h : a + (sz p).toNat ≤ b ∨ b + (sz q).toNat ≤ a) : wrd hi (pb hi f b q x) a p = wrd hi f a p :=
  wrd_congr fun j h1 h2 => by
    unfold pb
    rw [if_neg (by omega)]
theorem getW_in {hi : Bool} {st en : Nat} {f : Nat → Int} {a : Nat} {p : Int} (hp : sz p ≠ 0) (h1 : st ≤ a) (h2 : a + (sz p).toNat ≤ en) : getW hi st en f a p = wrd hi f a p ∧ getE st en a p = 0 := by
  have hz := sz_toNat hp
  have e : getE st en a p = 0 := by
    unfold getE
    rw [if_neg hp, inC_yes (by omega)]
    rfl
  refine ⟨?_, e⟩
  unfold getW
  rw [if_pos e]
  rfl
theorem putF_in {hi : Bool} {st en : Nat} {f : Nat → Int} {a : Nat} {p x : Int} (hp : sz p ≠ 0) (hf : fitsF (sz p) (rd p) x = true) (h1 : st ≤ a) (h2 : a + (sz p).toNat ≤ en) : putF hi st en f a p x = pb hi f a p x ∧ putE st en a p x = 0 := by
  have hz := sz_toNat hp
  have e : putE st en a p x = 0 := by
    unfold putE
    rw [if_neg hp, if_pos hf, inC_yes (by omega)]
    rfl
  refine ⟨?_, e⟩
  unfold putF
  rw [if_pos e]
  rfl
theorem fits_5 {x : Int} (h0 : 0 ≤ x) (h : x < 256) : fitsF (sz 5) (rd 5) x = true := by
  show (decide ((0 : Int) < 1) && (wordF 1 0 x == x)) = true
  unfold wordF pw
  simp
  omega
theorem fits_6 {x : Int} (h0 : 0 ≤ x) (h : x < 65536) : fitsF (sz 6) (rd 6) x = true := by
  show (decide ((0 : Int) < 2) && (wordF 2 0 x == x)) = true
  unfold wordF pw
  simp
  omega
theorem fits_7 {x : Int} (h0 : 0 ≤ x) (h : x < 4294967296) : fitsF (sz 7) (rd 7) x = true := by
  show (decide ((0 : Int) < 4) && (wordF 4 0 x == x)) = true
  unfold wordF pw
  simp
  omega
theorem fits_8 {x : Int} (h0 : 0 ≤ x) (h : x < 18446744073709551616) : fitsF (sz 8) (rd 8) x = true := by
  show (decide ((0 : Int) < 8) && (wordF 8 0 x == x)) = true
  unfold wordF pw
  simp
  omega
/-- The law's header, dimension, length. -/
def bkH : Hd := ⟨16, ⟨7, 12⟩, ⟨6, 0⟩, ⟨6, 4⟩, ⟨5, 9⟩⟩
def bkG : Tk := ⟨4, ByteArray.empty, 0, 0, 7, 0, 0, 0, 0, 0, 0, 0, [], 0, 0, 0, ⟨7, 3⟩, ⟨5, 0⟩, 0⟩
def bkL : Tk := ⟨6, ByteArray.empty, 0, 0, 3, 0, 0, 0, 0, 0, 0, 0, [], 0, 0, 0, ⟨6, 1⟩, ⟨0, 0⟩, 0⟩
theorem text_lay (f : Nat → Int) (a : Nat) (s : ByteArray) : textF (lay f a s.size s) a s.size = s := by
  apply ByteArray.ext
  apply Array.toList_inj.1
  rw [textF_data]
  apply List.ext_getElem
  · simp
  · intro i q1 q2
    have hi : i < s.size := by simpa using q1
    have hl : i < s.data.toList.length := q2
    rw [List.getElem_map, List.getElem_range]
    unfold lay
    rw [if_pos (by omega), show a + i - a = i by omega]
    unfold chF
    rw [List.getD_eq_getElem?_getD, List.getElem?_map, List.getElem?_eq_getElem hl]
    simp
theorem wrd_lay {hi : Bool} {f : Nat → Int} {a b n : Nat} {p : Int} {t : ByteArray} (h : a + (sz p).toNat ≤ b ∨ b + n ≤ a) : wrd hi (lay f b n t) a p = wrd hi f a p :=
  wrd_congr fun j h1 h2 => lay_out (by omega)
theorem z5 : (sz 5).toNat = 1 := rfl
theorem z6 : (sz 6).toNat = 2 := rfl
theorem z7 : (sz 7).toNat = 4 := rfl
theorem z8 : (sz 8).toNat = 8 := rfl
structure BkOk (v : Four) (x block count : Int) (s : ByteArray) : Prop where
  va : 0 ≤ v.a ∧ v.a < 4294967295
  vb : 0 ≤ v.b ∧ v.b < 65535
  vc : 0 ≤ v.c ∧ v.c < 65535
  vd : 0 ≤ v.d ∧ v.d < 255
  x : 0 ≤ x ∧ x < 18446744073709551616
  bl : 0 ≤ block ∧ block < 4294967295
  ct : 0 ≤ count ∧ count < 255
  s : s.size ≤ 250
section
variable (hi : Bool) (A : Nat) (f0 : Nat → Int) (v : Four) (x block count : Int) (s : ByteArray)
/-- The buffer behind each call. -/
def bk1 : Nat → Int := pb hi (pb hi (pb hi (pb hi (lay f0 A 16 ByteArray.empty) (A + 12) 7 v.a) (A + 0) 6 v.b) (A + 4) 6 v.c) (A + 9) 5 v.d
def bk2 : Nat → Int := pb hi (bk1 hi A f0 v) (A + 16) 8 x
def bk3 : Nat → Int := pb hi (pb hi (lay (bk2 hi A f0 v x) (A + 24) 7 ByteArray.empty) (A + 24 + 3) 7 block) (A + 24 + 0) 5 count
def bk3' : Nat → Int := pb hi (lay (bk3 hi A f0 v x block count) (A + 31) 3 ByteArray.empty) (A + 31 + 1) 6 s.size
def bk4 : Nat → Int := lay (bk3' hi A f0 v x block count s) (A + 34) s.size s
end
section
variable {hi : Bool} {A : Nat} {f0 : Nat → Int} {v : Four} {x block count : Int} {s : ByteArray}
theorem clZ {len en n : Nat} (h : en + n ≤ len) : clE len en n = 0 ∧ clP len en n = en ∧ clN len en n = en + n := by
  have e : clE len en n = 0 := by unfold clE; rw [if_neg (by omega), if_neg (by omega)]
  refine ⟨e, by unfold clP; rw [if_pos e], by unfold clN; rw [if_pos e]; simp⟩
theorem bk_head (ok : BkOk v x block count s) : pwE (headG bkH) (A + 300) A bkH.size (hdN bkH v) = 0 ∧ pwN (headG bkH) (A + 300) A bkH.size (hdN bkH v) = A + 16 ∧ pwF (headG bkH) hi (A + 300) A A f0 bkH.size (hdN bkH v) = bk1 hi A f0 v := by
  have hg : headG bkH = true := by decide
  have ho : over (hdN bkH v) = false := by
    have h1 := ok.va
    have h2 := ok.vb
    have h3 := ok.vc
    have h4 := ok.vd
    unfold over hdN
    have m7 : mx 7 = 4294967294 := rfl
    have m6 : mx 6 = 65534 := rfl
    have m5 : mx 5 = 254 := rfl
    simp [bkH, m7, m6, m5]
    omega
  have hc := clZ (len := A + 300) (en := A) (n := 16) (by omega)
  have e : wrE (A + 300) A bkH.size (hdN bkH v) = 0 := by unfold wrE; rw [ho]; exact hc.1
  refine ⟨by unfold pwE; rw [hg]; exact e, by unfold pwN wrN; rw [hg, e]; rfl, ?_⟩
  unfold pwF wrF
  rw [hg, e]
  show puts hi A (A + 16) A (lay f0 A 16 ByteArray.empty) (hdN bkH v) = _
  unfold puts hdN bk1
  simp only [List.foldl_cons, List.foldl_nil, bkH]
  have a1 : (A : Int) + 12 = ((A + 12 : Nat) : Int) := by omega
  have a2 : (A : Int) + 0 = ((A + 0 : Nat) : Int) := by omega
  have a3 : (A : Int) + 4 = ((A + 4 : Nat) : Int) := by omega
  have a4 : (A : Int) + 9 = ((A + 9 : Nat) : Int) := by omega
  have s5 : sz 5 ≠ 0 := by decide
  have s6 : sz 6 ≠ 0 := by decide
  have s7 : sz 7 ≠ 0 := by decide
  rw [a1, a2, a3, a4, (putF_in s7 (fits_7 ok.va.1 (by have := ok.va; omega)) (by omega) (by rw [z7]; omega)).1, (putF_in s6 (fits_6 ok.vb.1 (by have := ok.vb; omega)) (by omega) (by rw [z6]; omega)).1,
    (putF_in s6 (fits_6 ok.vc.1 (by have := ok.vc; omega)) (by omega) (by rw [z6]; omega)).1, (putF_in s5 (fits_5 ok.vd.1 (by have := ok.vd; omega)) (by omega) (by rw [z5]; omega)).1]
theorem bk_put (ok : BkOk v x block count s) : putE A (A + 24) ((A + 16 : Nat) : Int) 8 x = 0 ∧ putF hi A (A + 24) (bk1 hi A f0 v) ((A + 16 : Nat) : Int) 8 x = bk2 hi A f0 v x := by
  have := putF_in (hi := hi) (f := bk1 hi A f0 v) (st := A) (en := A + 24) (a := A + 16) (p := 8) (x := x) (by decide) (fits_8 ok.x.1 ok.x.2) (by omega) (by rw [z8]; omega)
  exact ⟨this.2, this.1⟩
theorem u64W_id {x : Int} (h0 : 0 ≤ x) (h : x < 4294967296) : u64W x = x := by unfold u64W; omega
theorem bk_dim (ok : BkOk v x block count s) : pwE (dimG bkG) (A + 300) (A + 24) bkG.siz (dimN bkG block count) = 0 ∧ pwN (dimG bkG) (A + 300) (A + 24) bkG.siz (dimN bkG block count) = A + 31 ∧ pwF (dimG bkG) hi (A + 300) A (A + 24) (bk2 hi A f0 v x) bkG.siz (dimN bkG block count) = bk3 hi A f0 v x block count := by
  have hg : dimG bkG = true := by decide
  have h1 := ok.bl
  have h2 := ok.ct
  have ub : u64W block = block := u64W_id h1.1 (by omega)
  have uc : u64W count = count := u64W_id h2.1 (by omega)
  have ho : over (dimN bkG block count) = false := by
    unfold over dimN
    rw [ub, uc]
    have m7 : mx 7 = 4294967294 := rfl
    have m5 : mx 5 = 254 := rfl
    simp [bkG, m7, m5]
    omega
  have hc := clZ (len := A + 300) (en := A + 24) (n := 7) (by omega)
  have e : wrE (A + 300) (A + 24) bkG.siz (dimN bkG block count) = 0 := by
    unfold wrE
    rw [ho, if_neg (by decide)]
    have e7 : bkG.siz = ((7 : Nat) : Int) := rfl
    rw [e7]
    exact hc.1
  refine ⟨by unfold pwE; rw [hg]; exact e, by unfold pwN wrN; rw [hg, e, if_pos rfl, if_pos rfl]; show A + 24 + 7 = A + 31; omega, ?_⟩
  unfold pwF wrF
  rw [hg, e]
  show puts hi A (A + 24 + 7) (A + 24) (lay (bk2 hi A f0 v x) (A + 24) 7 ByteArray.empty) (dimN bkG block count) = _
  unfold puts dimN bk3
  rw [ub, uc]
  simp only [List.foldl_cons, List.foldl_nil, bkG]
  have a1 : ((A + 24 : Nat) : Int) + 3 = ((A + 24 + 3 : Nat) : Int) := by omega
  have a2 : ((A + 24 : Nat) : Int) + 0 = ((A + 24 + 0 : Nat) : Int) := by omega
  have s5 : sz 5 ≠ 0 := by decide
  have s7 : sz 7 ≠ 0 := by decide
  rw [a1, a2, (putF_in s7 (fits_7 h1.1 (by omega)) (by omega) (by rw [z7]; omega)).1, (putF_in s5 (fits_5 h2.1 (by omega)) (by omega) (by rw [z5]; omega)).1]
theorem bk_data (ok : BkOk v x block count s) : pdE (A + 300) (A + 31) bkL s.size = 0 ∧ pdN (A + 300) (A + 31) bkL s.size = A + 34 + s.size ∧ pdF hi (A + 300) A (A + 31) (bk3 hi A f0 v x block count) bkL s = bk4 hi A f0 v x block count s := by
  have hg : lenG bkL = true := by decide
  have hs := ok.s
  have m6 : mx 6 = 65534 := rfl
  have e : pdE (A + 300) (A + 31) bkL s.size = 0 := by
    unfold pdE
    rw [hg, if_pos rfl, if_neg (by show ¬ mx 6 < (s.size : Int); rw [m6]; omega), if_neg (by show ¬ ((A + 300 : Nat) : Int) - ((A + 31 : Nat) : Int) - 3 < (s.size : Int); omega)]
  refine ⟨e, by unfold pdN; rw [e, if_pos rfl]; show A + 31 + 3 + s.size = A + 34 + s.size; omega, ?_⟩
  unfold pdF
  rw [if_pos e]
  show lay (wrF hi (A + 300) A (A + 31) (bk3 hi A f0 v x block count) 3 (lenN bkL s.size)) (A + 31 + 3) s.size s = _
  unfold wrF bk4
  rw [show wrE (A + 300) (A + 31) 3 (lenN bkL s.size) = 0 from pd_wr e, if_pos rfl]
  show lay (puts hi A (A + 31 + 3) (A + 31) (lay (bk3 hi A f0 v x block count) (A + 31) 3 ByteArray.empty) (lenN bkL s.size)) (A + 34) s.size s = _
  unfold puts lenN bk3'
  simp only [List.foldl_cons, List.foldl_nil, bkL]
  have a1 : ((A + 31 : Nat) : Int) + 1 = ((A + 31 + 1 : Nat) : Int) := by omega
  have s6 : sz 6 ≠ 0 := by decide
  rw [a1, (putF_in s6 (fits_6 (by omega) (by omega)) (by omega) (by rw [z6]; omega)).1]
theorem wrd4 {a : Nat} {p : Int} (h : a + (sz p).toNat ≤ A + 31) : wrd hi (bk4 hi A f0 v x block count s) a p = wrd hi (bk3 hi A f0 v x block count) a p := by
  unfold bk4 bk3'
  rw [wrd_lay (by omega), wrd_far (by omega), wrd_lay (by omega)]
theorem wrd3 {a : Nat} {p : Int} (h : a + (sz p).toNat ≤ A + 24) : wrd hi (bk4 hi A f0 v x block count s) a p = wrd hi (bk2 hi A f0 v x) a p := by
  rw [wrd4 (by omega)]
  unfold bk3
  rw [wrd_far (by omega), wrd_far (by omega), wrd_lay (by omega)]
theorem wrd2 {a : Nat} {p : Int} (h : a + (sz p).toNat ≤ A + 16) : wrd hi (bk4 hi A f0 v x block count s) a p = wrd hi (bk1 hi A f0 v) a p := by
  rw [wrd3 (by omega)]
  unfold bk2
  rw [wrd_far (by omega)]
theorem bk_ghead (ok : BkOk v x block count s) : gwE (headG bkH) (A + 300) A bkH.size = 0 ∧ gwN (headG bkH) (A + 300) A bkH.size = A + 16 ∧
    gwV (headG bkH) hi (A + 300) A A (bk4 hi A f0 v x block count s) bkH.size (bkH.b.p, bkH.b.o) = v.a ∧ gwV (headG bkH) hi (A + 300) A A (bk4 hi A f0 v x block count s) bkH.size (bkH.t.p, bkH.t.o) = v.b ∧
    gwV (headG bkH) hi (A + 300) A A (bk4 hi A f0 v x block count s) bkH.size (bkH.s.p, bkH.s.o) = v.c ∧ gwV (headG bkH) hi (A + 300) A A (bk4 hi A f0 v x block count s) bkH.size (bkH.v.p, bkH.v.o) = v.d := by
  have hg : headG bkH = true := by decide
  have hc := clZ (len := A + 300) (en := A) (n := 16) (by omega)
  have e7 : bkH.size = ((16 : Nat) : Int) := rfl
  have e : gwE (headG bkH) (A + 300) A bkH.size = 0 := by unfold gwE; rw [hg, if_pos rfl, e7]; exact hc.1
  have en : clN (A + 300) A bkH.size = A + 16 := by rw [e7]; exact hc.2.2
  have s5 : sz 5 ≠ 0 := by decide
  have s6 : sz 6 ≠ 0 := by decide
  have s7 : sz 7 ≠ 0 := by decide
  have a1 : (A : Int) + 12 = ((A + 12 : Nat) : Int) := by omega
  have a2 : (A : Int) + 0 = ((A + 0 : Nat) : Int) := by omega
  have a3 : (A : Int) + 4 = ((A + 4 : Nat) : Int) := by omega
  have a4 : (A : Int) + 9 = ((A + 9 : Nat) : Int) := by omega
  refine ⟨e, by unfold gwN; rw [hg, if_pos rfl]; exact en, ?_, ?_, ?_, ?_⟩
  · unfold gwV
    rw [if_pos e, en]
    show getW hi A (A + 16) _ ((A : Int) + 12) 7 = _
    rw [a1, (getW_in s7 (by omega) (by rw [z7]; omega)).1, wrd2 (by rw [z7]; omega)]
    unfold bk1
    rw [wrd_far (by rw [z7, z5]; omega), wrd_far (by rw [z7, z6]; omega), wrd_far (by rw [z7, z6]; omega), wrd_pb s7 (fits_7 ok.va.1 (by have := ok.va; omega))]
  · unfold gwV
    rw [if_pos e, en]
    show getW hi A (A + 16) _ ((A : Int) + 0) 6 = _
    rw [a2, (getW_in s6 (by omega) (by rw [z6]; omega)).1, wrd2 (by rw [z6]; omega)]
    unfold bk1
    rw [wrd_far (by rw [z6, z5]; omega), wrd_far (by rw [z6]; omega), wrd_pb s6 (fits_6 ok.vb.1 (by have := ok.vb; omega))]
  · unfold gwV
    rw [if_pos e, en]
    show getW hi A (A + 16) _ ((A : Int) + 4) 6 = _
    rw [a3, (getW_in s6 (by omega) (by rw [z6]; omega)).1, wrd2 (by rw [z6]; omega)]
    unfold bk1
    rw [wrd_far (by rw [z6, z5]; omega), wrd_pb s6 (fits_6 ok.vc.1 (by have := ok.vc; omega))]
  · unfold gwV
    rw [if_pos e, en]
    show getW hi A (A + 16) _ ((A : Int) + 9) 5 = _
    rw [a4, (getW_in s5 (by omega) (by rw [z5]; omega)).1, wrd2 (by rw [z5]; omega)]
    unfold bk1
    rw [wrd_pb s5 (fits_5 ok.vd.1 (by have := ok.vd; omega))]
theorem bk_get (ok : BkOk v x block count s) : getE A (A + 24) ((A + 16 : Nat) : Int) 8 = 0 ∧ getW hi A (A + 24) (bk4 hi A f0 v x block count s) ((A + 16 : Nat) : Int) 8 = x := by
  have s8 : sz 8 ≠ 0 := by decide
  have h := getW_in (hi := hi) (f := bk4 hi A f0 v x block count s) (st := A) (en := A + 24) (a := A + 16) s8 (by omega) (by rw [z8]; omega)
  refine ⟨h.2, ?_⟩
  rw [h.1, wrd3 (by rw [z8]; omega)]
  unfold bk2
  exact wrd_pb s8 (fits_8 ok.x.1 ok.x.2)
theorem i64W_id {x : Int} (h0 : 0 ≤ x) (h : x < 4294967296) : i64W x = x := by unfold i64W wrap64; omega
theorem bk_gdim (ok : BkOk v x block count s) : gwE (dimG bkG) (A + 300) (A + 24) bkG.siz = 0 ∧ gwN (dimG bkG) (A + 300) (A + 24) bkG.siz = A + 31 ∧
    i64W (gwV (dimG bkG) hi (A + 300) A (A + 24) (bk4 hi A f0 v x block count s) bkG.siz (bkG.a.p, bkG.a.o)) = block ∧ i64W (gwV (dimG bkG) hi (A + 300) A (A + 24) (bk4 hi A f0 v x block count s) bkG.siz (bkG.b.p, bkG.b.o)) = count := by
  have hg : dimG bkG = true := by decide
  have hc := clZ (len := A + 300) (en := A + 24) (n := 7) (by omega)
  have e7 : bkG.siz = ((7 : Nat) : Int) := rfl
  have h1 := ok.bl
  have h2 := ok.ct
  have e : gwE (dimG bkG) (A + 300) (A + 24) bkG.siz = 0 := by unfold gwE; rw [hg, if_pos rfl, e7]; exact hc.1
  have en : clN (A + 300) (A + 24) bkG.siz = A + 31 := by rw [e7]; exact hc.2.2
  have s5 : sz 5 ≠ 0 := by decide
  have s7 : sz 7 ≠ 0 := by decide
  have a1 : ((A + 24 : Nat) : Int) + 3 = ((A + 24 + 3 : Nat) : Int) := by omega
  have a2 : ((A + 24 : Nat) : Int) + 0 = ((A + 24 + 0 : Nat) : Int) := by omega
  refine ⟨e, by unfold gwN; rw [hg, if_pos rfl]; exact en, ?_, ?_⟩
  · have q : gwV (dimG bkG) hi (A + 300) A (A + 24) (bk4 hi A f0 v x block count s) bkG.siz (bkG.a.p, bkG.a.o) = block := by
      unfold gwV
      rw [if_pos e, en]
      show getW hi A (A + 31) _ (((A + 24 : Nat) : Int) + 3) 7 = _
      rw [a1, (getW_in s7 (by omega) (by rw [z7]; omega)).1, wrd4 (by rw [z7]; omega)]
      unfold bk3
      rw [wrd_far (by rw [z7, z5]; omega), wrd_pb s7 (fits_7 h1.1 (by omega))]
    rw [q]
    exact i64W_id h1.1 (by omega)
  · have q : gwV (dimG bkG) hi (A + 300) A (A + 24) (bk4 hi A f0 v x block count s) bkG.siz (bkG.b.p, bkG.b.o) = count := by
      unfold gwV
      rw [if_pos e, en]
      show getW hi A (A + 31) _ (((A + 24 : Nat) : Int) + 0) 5 = _
      rw [a2, (getW_in s5 (by omega) (by rw [z5]; omega)).1, wrd4 (by rw [z5]; omega)]
      unfold bk3
      rw [wrd_pb s5 (fits_5 h2.1 (by omega))]
    rw [q]
    exact i64W_id h2.1 (by omega)
theorem bk_gdata (ok : BkOk v x block count s) : gdE hi (A + 300) A (A + 31) (bk4 hi A f0 v x block count s) bkL = 0 ∧ gdN hi (A + 300) A (A + 31) (bk4 hi A f0 v x block count s) bkL = A + 34 + s.size ∧ gdT hi (A + 300) A (A + 31) (bk4 hi A f0 v x block count s) bkL = s := by
  have hg : lenG bkL = true := by decide
  have hs := ok.s
  have hc := clZ (len := A + 300) (en := A + 31) (n := 3) (by omega)
  have hd := clZ (len := A + 300) (en := A + 34) (n := s.size) (by omega)
  have s6 : sz 6 ≠ 0 := by decide
  have a1 : ((A + 31 : Nat) : Int) + 1 = ((A + 31 + 1 : Nat) : Int) := by omega
  have n : gdn hi A (A + 31) (bk4 hi A f0 v x block count s) bkL = s.size := by
    show getW hi A (A + 31 + 3) _ (((A + 31 : Nat) : Int) + 1) 6 = _
    rw [a1, (getW_in s6 (by omega) (by rw [z6]; omega)).1]
    unfold bk4 bk3'
    rw [wrd_lay (by rw [z6]; omega), wrd_pb s6 (fits_6 (by omega) (by omega))]
  have t3 : bkL.siz.toNat = 3 := rfl
  have e7 : bkL.siz = ((3 : Nat) : Int) := rfl
  have e : gdE hi (A + 300) A (A + 31) (bk4 hi A f0 v x block count s) bkL = 0 := by
    unfold gdE
    rw [hg, if_pos rfl, n, t3, e7, if_pos hc.1]
    exact hd.1
  refine ⟨e, ?_, ?_⟩
  · unfold gdN
    rw [if_pos e, n, t3]
    simp
  · unfold gdT
    rw [if_pos e, n, t3]
    show textF _ (A + 34) ((s.size : Int).toNat) = _
    rw [show ((s.size : Int)).toNat = s.size by omega]
    unfold bk4
    exact text_lay _ _ _
theorem pb_out {g : Nat → Int} {a : Nat} {p y : Int} {j : Nat} (h : j < a ∨ a + (sz p).toNat ≤ j) : pb hi g a p y j = g j := by unfold pb; rw [if_neg (by omega)]
theorem bk_out {j : Nat} (h : j < A ∨ A + 34 + s.size ≤ j) : bk4 hi A f0 v x block count s j = f0 j := by
  unfold bk4 bk3' bk3 bk2 bk1
  rw [lay_out (by omega), pb_out (by rw [z6]; omega), lay_out (by omega), pb_out (by rw [z5]; omega), pb_out (by rw [z7]; omega), lay_out (by omega), pb_out (by rw [z8]; omega), pb_out (by rw [z5]; omega), pb_out (by rw [z6]; omega), pb_out (by rw [z6]; omega), pb_out (by rw [z7]; omega), lay_out (by omega)]
end
end Go.Proofs.YtgklippjoikadaaDoor

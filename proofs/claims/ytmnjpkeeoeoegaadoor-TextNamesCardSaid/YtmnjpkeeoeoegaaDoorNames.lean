/- The walk of TextNames. -/
import Derived.Test.YtmnjpkeeoeoegaaDoorNamMath
import Derived.Deep.CutBlock
import Derived.Deep.DeepCutAuto
import Derived.Lib.ConvBytes
import Derived.Deep.OwnRows
import Derived.Deep.DeepFit
import Derived.Laws.BytesArg
namespace Go.Proofs.YtmnjpkeeoeoegaaDoor
open Go.ChangeShapes Go.WideShapes Go.ChangeAt Go.RowKit

theorem nconv (W : World) (g : Nat) (c : Nat) (hg : W.heap.size = g) :
    (convert 23 9 (.slice (some ⟨g, 0, none⟩) 1 1)).run Tryd.prog (W.alloc (.cells #[.int .u8 (c : Int)] 5)) = .ok (.string (oneB c)) (W.alloc (.cells #[.int .u8 (c : Int)] 5)) := by
  subst hg
  have : strOfNums [(c : Int)] = oneB c := by unfold strOfNums oneB; simp
  rw [← this]
  refine run_convert_bytes_arg _ 23 5 Tryd.underlying23 Tryd.underlying5 W.heap.size 0 1 1 [(c : Int)] rfl (fun i hi => ?_) 9 Tryd.underlying9
  obtain rfl : i = 0 := by omega
  have : (W.alloc (.cells #[.int .u8 (c : Int)] 5)).heap[W.heap.size]? = some (.cells #[.int .u8 (c : Int)] 5) := heap_alloc_new W _
  rw [Nat.zero_add]
  unfold World.cell?
  rw [this]
  rfl
theorem bstep {a b c : World} (HB : Below a.heap.size a b) (hb : Below b.heap.size b c) : Below a.heap.size a c := HB.trans (hb.mono HB.size)
def Hid2 (p : Prop) : Prop := p
theorem Hid2.out {p : Prop} (h : Hid2 p) : p := h
theorem nbel (w : World) (o : Obj) : Below w.heap.size w (w.alloc o) := (Below.refl _ _).alloc (Nat.le_refl _) _

set_option maxRecDepth 100000 in
set_option maxHeartbeats 40000000 in
theorem names_walk (fr bk : ByteArray) (c : Nat) (hc : c < 256) (hf : fr.size ≤ 140737488351232) (hb : bk.size ≤ 140737488351232) (w : World) :
    Calls Tryd.prog 3 #[.string fr, .int .u8 (c : Int), .string bk] w fun e w' => e = .returned (.bool true) ∧ Below w.heap.size w w' := by
  have cv := nconv
  have k1 : xmlNameB { data := #[115, 98, 101, 58, 97, 45, 49, 46, 98] } = true := by decide +kernel
  have k2 : xmlNameB { data := #[] } = false := by decide +kernel
  have k3 : xmlNameB { data := #[49] } = false := by decide +kernel
  have k4 : symbolB { data := #[95, 57] } = true := by decide +kernel
  have k5 : symbolB { data := #[57] } = false := by decide +kernel
  have k6 : symbolB { data := #[] } = false := by decide +kernel
  go_enter Tryd.func3, Tryd.ntmps3
  go_upto_region 3 with (first | (go_at_call 4; refine (XMLName_any _ (by decide) _).mono ?_; rintro e w1 ⟨rfl, hw1⟩; subst w1) | (go_at_call 5; refine (Symbol_any _ (by decide) _).mono ?_; rintro e w1 ⟨rfl, hw1⟩; subst w1))
  clear k1 k2 k3 k4 k5 k6
  go_cut [7] (fun s wx => s = .bool (wordB c) ∧ wx = w)
  case first =>
   as_aux_lemma =>
    have : (c < 65) ∨ (65 ≤ c ∧ c ≤ 90) ∨ (91 ≤ c ∧ c ≤ 94) ∨ (c = 95) ∨ (c = 96) ∨ (97 ≤ c ∧ c ≤ 122) ∨ (123 ≤ c) := by omega
    rcases this with h | h | h | h | h | h | h
    · skip
      have qa : decide (97 ≤ (c : Int)) = false := by simp; omega
      have qA : decide (65 ≤ (c : Int)) = false := by simp; omega
      have qu : ((c : Int) == 95) = false := by simp; omega
      have hg : wordB c = false := by unfold wordB nlet; simp; omega
      have hg : Hid2 (wordB c = false) := hg
      clear h
      go_wp2_with fail
      go_meet
      case rel => exact ⟨by rw [hg.out], rfl⟩
    · skip
      have qa : decide (97 ≤ (c : Int)) = false := by simp; omega
      have qA : decide (65 ≤ (c : Int)) = true := by simp; omega
      have qZ : decide ((c : Int) ≤ 90) = true := by simp; omega
      have hg : wordB c = true := by unfold wordB nlet; simp; omega
      have hg : Hid2 (wordB c = true) := hg
      clear h
      go_wp2_with fail
      go_meet
      case rel => exact ⟨by rw [hg.out], rfl⟩
    · skip
      have qa : decide (97 ≤ (c : Int)) = false := by simp; omega
      have qA : decide (65 ≤ (c : Int)) = true := by simp; omega
      have qZ : decide ((c : Int) ≤ 90) = false := by simp; omega
      have qu : ((c : Int) == 95) = false := by simp; omega
      have hg : wordB c = false := by unfold wordB nlet; simp; omega
      have hg : Hid2 (wordB c = false) := hg
      clear h
      go_wp2_with fail
      go_meet
      case rel => exact ⟨by rw [hg.out], rfl⟩
    · skip
      have qa : decide (97 ≤ (c : Int)) = false := by simp; omega
      have qA : decide (65 ≤ (c : Int)) = true := by simp; omega
      have qZ : decide ((c : Int) ≤ 90) = false := by simp; omega
      have qu : ((c : Int) == 95) = true := by simp; omega
      have hg : wordB c = true := by unfold wordB nlet; simp; omega
      have hg : Hid2 (wordB c = true) := hg
      clear h
      go_wp2_with fail
      go_meet
      case rel => exact ⟨by rw [hg.out], rfl⟩
    · skip
      have qa : decide (97 ≤ (c : Int)) = false := by simp; omega
      have qA : decide (65 ≤ (c : Int)) = true := by simp; omega
      have qZ : decide ((c : Int) ≤ 90) = false := by simp; omega
      have qu : ((c : Int) == 95) = false := by simp; omega
      have hg : wordB c = false := by unfold wordB nlet; simp; omega
      have hg : Hid2 (wordB c = false) := hg
      clear h
      go_wp2_with fail
      go_meet
      case rel => exact ⟨by rw [hg.out], rfl⟩
    · skip
      have qa : decide (97 ≤ (c : Int)) = true := by simp; omega
      have qz : decide ((c : Int) ≤ 122) = true := by simp; omega
      have hg : wordB c = true := by unfold wordB nlet; simp; omega
      have hg : Hid2 (wordB c = true) := hg
      clear h
      go_wp2_with fail
      go_meet
      case rel => exact ⟨by rw [hg.out], rfl⟩
    · skip
      have qa : decide (97 ≤ (c : Int)) = true := by simp; omega
      have qz : decide ((c : Int) ≤ 122) = false := by simp; omega
      have qA : decide (65 ≤ (c : Int)) = true := by simp; omega
      have qZ : decide ((c : Int) ≤ 90) = false := by simp; omega
      have qu : ((c : Int) == 95) = false := by simp; omega
      have hg : wordB c = false := by unfold wordB nlet; simp; omega
      have hg : Hid2 (wordB c = false) := hg
      clear h
      go_wp2_with fail
      go_meet
      case rel => exact ⟨by rw [hg.out], rfl⟩
  case rest =>
  obtain ⟨rfl, rfl⟩ := hcut
  rename World => w
  go_upto_region 4 with fail
  go_cut [7, 8] (fun s7 s wx => s7 = .bool (wordB c) ∧ s = .bool (inB c) ∧ wx = w)
  case first =>
   as_aux_lemma =>
    cases hw : wordB c
    · have : c < 48 ∨ (48 ≤ c ∧ c ≤ 57) ∨ 58 ≤ c := by omega
      rcases this with h | h | h
      · skip
        have qd : decide (48 ≤ (c : Int)) = false := by simp; omega
        have hg : Hid2 (inB c = false) := by show inB c = _; unfold inB ndig; rw [hw]; simp; omega
        clear h
        go_wp2_with fail
        go_meet
        case rel => exact ⟨by rw [hw], by rw [hg.out], rfl⟩
      · skip
        have qd : decide (48 ≤ (c : Int)) = true := by simp; omega
        have qD : decide ((c : Int) ≤ 57) = true := by simp; omega
        have hg : Hid2 (inB c = true) := by show inB c = _; unfold inB ndig; rw [hw]; simp; omega
        clear h
        go_wp2_with fail
        go_meet
        case rel => exact ⟨by rw [hw], by rw [hg.out], rfl⟩
      · skip
        have qd : decide (48 ≤ (c : Int)) = true := by simp; omega
        have qD : decide ((c : Int) ≤ 57) = false := by simp; omega
        have hg : Hid2 (inB c = false) := by show inB c = _; unfold inB ndig; rw [hw]; simp; omega
        clear h
        go_wp2_with fail
        go_meet
        case rel => exact ⟨by rw [hw], by rw [hg.out], rfl⟩
    · have hg : Hid2 (inB c = true) := by show inB c = _; unfold inB; rw [hw]; rfl
      go_wp2_with fail
      go_meet
      case rel => exact ⟨by rw [hw], by rw [hg.out], rfl⟩
  case rest =>
  obtain ⟨rfl, rfl, rfl⟩ := hcut
  rename World => w
  obtain ⟨f1, f2, f3, f4, f5⟩ := one_facts c hc
  have z1 : (oneB c).size = 1 := rfl
  have z2 : (({ data := #[97] } : ByteArray) ++ oneB c).size = 2 := by rw [ByteArray.size_append]; rfl
  go_upto_region 5 with fail
  go_cut [7, 8, 73] (fun s7 s8 s wx => s7 = .bool (wordB c) ∧ s8 = .bool (inB c) ∧ s = .bool false ∧ Below w.heap.size w wx)
  case first =>
   as_aux_lemma =>
    cases hw : wordB c <;> cases hi : inB c <;> rw [hw] at f1 <;> rw [hi] at f2
    all_goals
      clear f3 f4 f5
      go_wp2_with (first | (go_at_call 4; refine (XMLName_any _ (by first | (rw [z1]; decide) | (rw [z2]; decide)) _).mono ?_; rintro e w1 ⟨rfl, hw1⟩; subst w1) | (go_at_call 5; refine (Symbol_any _ (by first | (rw [z1]; decide) | (rw [z2]; decide)) _).mono ?_; rintro e w1 ⟨rfl, hw1⟩; subst w1))
      go_meet
      case rel => exact ⟨by rw [hw], by rw [hi], rfl, by first | exact (nbel _ _).trans ((nbel _ _).mono (by simp)) | exact nbel _ _⟩
  case rest =>
  obtain ⟨rfl, rfl, rfl, HB⟩ := hcut
  clear f1 f2
  go_upto_region 7 with fail
  go_cut [7, 8, 104] (fun s7 s8 s wx => s7 = .bool (wordB c) ∧ s8 = .bool (inB c) ∧ s = .bool false ∧ Below w.heap.size w wx)
  case first =>
   as_aux_lemma =>
    have : (wordB c = true ∧ inB c = true) ∨ (wordB c = false ∧ inB c = true ∧ ¬ c = 58 ∧ ¬ c = 45 ∧ ¬ c = 46) ∨ (wordB c = false ∧ inB c = false ∧ c = 58) ∨ (wordB c = false ∧ inB c = false ∧ c = 45) ∨ (wordB c = false ∧ inB c = false ∧ c = 46) ∨ (wordB c = false ∧ inB c = false ∧ ¬ c = 58 ∧ ¬ c = 45 ∧ ¬ c = 46) := (by decide +kernel : ∀ c, c < 256 → (wordB c = true ∧ inB c = true) ∨ (wordB c = false ∧ inB c = true ∧ ¬ c = 58 ∧ ¬ c = 45 ∧ ¬ c = 46) ∨ (wordB c = false ∧ inB c = false ∧ c = 58) ∨ (wordB c = false ∧ inB c = false ∧ c = 45) ∨ (wordB c = false ∧ inB c = false ∧ c = 46) ∨ (wordB c = false ∧ inB c = false ∧ ¬ c = 58 ∧ ¬ c = 45 ∧ ¬ c = 46)) c hc
    rcases this with ⟨hw, hi⟩ | ⟨hw, hi, n1, n2, n3⟩ | ⟨hw, hi, n1⟩ | ⟨hw, hi, n1⟩ | ⟨hw, hi, n1⟩ | ⟨hw, hi, n1, n2, n3⟩
    · skip
      replace f3 : xmlNameB (oneB c) = true := by rw [f3, hw]; simp
      replace f4 : xmlNameB ({ data := #[97] } ++ oneB c) = true := by rw [f4, hi]; simp
      go_wp2_with (first | (go_at_call 4; refine (XMLName_any _ (by first | (rw [z1]; decide) | (rw [z2]; decide)) _).mono ?_; rintro e w1 ⟨rfl, hw1⟩; subst w1) | (go_at_call 5; refine (Symbol_any _ (by first | (rw [z1]; decide) | (rw [z2]; decide)) _).mono ?_; rintro e w1 ⟨rfl, hw1⟩; subst w1))
      go_meet
      case rel => exact ⟨by rw [hw], by rw [hi], rfl, HB.trans ((by first | exact (nbel _ _).trans ((nbel _ _).mono (by simp)) | exact nbel _ _ : Below wc.heap.size wc _).mono HB.size)⟩
    · skip
      have qa : ((c : Int) == 58) = false := by simp; omega
      have qb : ((c : Int) == 45) = false := by simp; omega
      have qd : ((c : Int) == 46) = false := by simp; omega
      replace f3 : xmlNameB (oneB c) = false := by rw [f3, hw]; simp; omega
      replace f4 : xmlNameB ({ data := #[97] } ++ oneB c) = true := by rw [f4, hi]; simp
      clear n1 n2 n3
      go_wp2_with (first | (go_at_call 4; refine (XMLName_any _ (by first | (rw [z1]; decide) | (rw [z2]; decide)) _).mono ?_; rintro e w1 ⟨rfl, hw1⟩; subst w1) | (go_at_call 5; refine (Symbol_any _ (by first | (rw [z1]; decide) | (rw [z2]; decide)) _).mono ?_; rintro e w1 ⟨rfl, hw1⟩; subst w1))
      go_meet
      case rel => exact ⟨by rw [hw], by rw [hi], rfl, HB.trans ((by first | exact (nbel _ _).trans ((nbel _ _).mono (by simp)) | exact nbel _ _ : Below wc.heap.size wc _).mono HB.size)⟩
    · skip
      have qa : ((c : Int) == 58) = true := by simp; omega
      replace f3 : xmlNameB (oneB c) = true := by rw [f3, hw]; simp; omega
      replace f4 : xmlNameB ({ data := #[97] } ++ oneB c) = true := by rw [f4, hi]; simp; omega
      clear n1
      go_wp2_with (first | (go_at_call 4; refine (XMLName_any _ (by first | (rw [z1]; decide) | (rw [z2]; decide)) _).mono ?_; rintro e w1 ⟨rfl, hw1⟩; subst w1) | (go_at_call 5; refine (Symbol_any _ (by first | (rw [z1]; decide) | (rw [z2]; decide)) _).mono ?_; rintro e w1 ⟨rfl, hw1⟩; subst w1))
      go_meet
      case rel => exact ⟨by rw [hw], by rw [hi], rfl, HB.trans ((by first | exact (nbel _ _).trans ((nbel _ _).mono (by simp)) | exact nbel _ _ : Below wc.heap.size wc _).mono HB.size)⟩
    · skip
      have qa : ((c : Int) == 58) = false := by simp; omega
      have qb : ((c : Int) == 45) = true := by simp; omega
      have qd : ((c : Int) == 46) = false := by simp; omega
      replace f3 : xmlNameB (oneB c) = false := by rw [f3, hw]; simp; omega
      replace f4 : xmlNameB ({ data := #[97] } ++ oneB c) = true := by rw [f4, hi]; simp; omega
      clear n1
      go_wp2_with (first | (go_at_call 4; refine (XMLName_any _ (by first | (rw [z1]; decide) | (rw [z2]; decide)) _).mono ?_; rintro e w1 ⟨rfl, hw1⟩; subst w1) | (go_at_call 5; refine (Symbol_any _ (by first | (rw [z1]; decide) | (rw [z2]; decide)) _).mono ?_; rintro e w1 ⟨rfl, hw1⟩; subst w1))
      go_meet
      case rel => exact ⟨by rw [hw], by rw [hi], rfl, HB.trans ((by first | exact (nbel _ _).trans ((nbel _ _).mono (by simp)) | exact nbel _ _ : Below wc.heap.size wc _).mono HB.size)⟩
    · skip
      have qa : ((c : Int) == 58) = false := by simp; omega
      have qb : ((c : Int) == 45) = false := by simp; omega
      have qd : ((c : Int) == 46) = true := by simp; omega
      replace f3 : xmlNameB (oneB c) = false := by rw [f3, hw]; simp; omega
      replace f4 : xmlNameB ({ data := #[97] } ++ oneB c) = true := by rw [f4, hi]; simp; omega
      clear n1
      go_wp2_with (first | (go_at_call 4; refine (XMLName_any _ (by first | (rw [z1]; decide) | (rw [z2]; decide)) _).mono ?_; rintro e w1 ⟨rfl, hw1⟩; subst w1) | (go_at_call 5; refine (Symbol_any _ (by first | (rw [z1]; decide) | (rw [z2]; decide)) _).mono ?_; rintro e w1 ⟨rfl, hw1⟩; subst w1))
      go_meet
      case rel => exact ⟨by rw [hw], by rw [hi], rfl, HB.trans ((by first | exact (nbel _ _).trans ((nbel _ _).mono (by simp)) | exact nbel _ _ : Below wc.heap.size wc _).mono HB.size)⟩
    · skip
      have qa : ((c : Int) == 58) = false := by simp; omega
      have qb : ((c : Int) == 45) = false := by simp; omega
      have qd : ((c : Int) == 46) = false := by simp; omega
      replace f3 : xmlNameB (oneB c) = false := by rw [f3, hw]; simp; omega
      replace f4 : xmlNameB ({ data := #[97] } ++ oneB c) = false := by rw [f4, hi]; simp; omega
      clear n1 n2 n3
      go_wp2_with (first | (go_at_call 4; refine (XMLName_any _ (by first | (rw [z1]; decide) | (rw [z2]; decide)) _).mono ?_; rintro e w1 ⟨rfl, hw1⟩; subst w1) | (go_at_call 5; refine (Symbol_any _ (by first | (rw [z1]; decide) | (rw [z2]; decide)) _).mono ?_; rintro e w1 ⟨rfl, hw1⟩; subst w1))
      go_meet
      case rel => exact ⟨by rw [hw], by rw [hi], rfl, HB.trans ((by first | exact (nbel _ _).trans ((nbel _ _).mono (by simp)) | exact nbel _ _ : Below wc.heap.size wc _).mono HB.size)⟩
  case rest =>
  clear HB
  obtain ⟨rfl, rfl, rfl, HB⟩ := hcut
  clear f3 f4
  have x1 : fr.size + 1 ≤ 9223372036854775807 := by omega
  have x2 : fr.size + 1 + bk.size ≤ 9223372036854775807 := by omega
  go_upto_region 9 with fail
  go_cut [9] (fun s wx => ∃ S, s = .string S ∧ S.size ≤ 281474976702465 ∧ Hid2 (blankB S = (blC c && blankB fr && blankB bk)) ∧ Below w.heap.size w wx)
  case first =>
   as_aux_lemma =>
    go_wp2_with fail
    go_meet
    case rel => exact ⟨_, rfl, by rw [ByteArray.size_append, ByteArray.size_append, z1]; omega, by show blankB _ = _; rw [blank_app, blank_app, blank_one c hc, Bool.and_comm (blankB fr)], bstep HB (nbel _ _)⟩
  case rest =>
  clear HB
  obtain ⟨S, rfl, hS, hSb, HB⟩ := hcut
  go_upto_region 11 with (first | (go_at_call 4; refine (XMLName_any _ (by omega) _).mono ?_; rintro e w1 ⟨rfl, hw1⟩; subst w1) | (go_at_call 5; refine (Symbol_any _ (by omega) _).mono ?_; rintro e w1 ⟨rfl, hw1⟩; subst w1))
  go_cut [10, 124] (fun _ s wx => s = .bool false ∧ wx = wc)
  case first =>
   as_aux_lemma =>
    cases hs : symbolB S
    · go_wp2_with fail
      go_meet
      case rel => exact ⟨rfl, rfl⟩
    · obtain ⟨g1, g2⟩ := sym_xml S hs
      have d1 : decide (64 < (S.size : Int)) = false := by simp; omega
      clear hs
      go_wp2_with (first | (go_at_call 4; refine (XMLName_any _ (by omega) _).mono ?_; rintro e w1 ⟨rfl, hw1⟩; subst w1) | (go_at_call 5; refine (Symbol_any _ (by omega) _).mono ?_; rintro e w1 ⟨rfl, hw1⟩; subst w1))
      go_meet
      case rel => exact ⟨rfl, rfl⟩
  case rest =>
  obtain ⟨rfl, rfl⟩ := hcut
  go_upto_region 13 with fail
  go_cut [11] (fun s wx => s = .bool (blC c) ∧ Below w.heap.size w wx)
  case first =>
   as_aux_lemma =>
    have : (c = 9) ∨ (c = 10) ∨ (c = 13) ∨ (c = 32) ∨ (¬ c = 9 ∧ ¬ c = 10 ∧ ¬ c = 13 ∧ ¬ c = 32) := by omega
    rcases this with h | h | h | h | h
    · skip
      have qe9 : ((c : Int) == 9) = true := by simp; omega
      have hg : blC c = true := by unfold blC; simp; omega
      have hg : Hid2 (blC c = true) := hg
      clear h
      go_wp2_with fail
      go_meet
      case rel => exact ⟨by rw [hg.out], HB⟩
    · skip
      have qe9 : ((c : Int) == 9) = false := by simp; omega
      have qe10 : ((c : Int) == 10) = true := by simp; omega
      have hg : blC c = true := by unfold blC; simp; omega
      have hg : Hid2 (blC c = true) := hg
      clear h
      go_wp2_with fail
      go_meet
      case rel => exact ⟨by rw [hg.out], HB⟩
    · skip
      have qe9 : ((c : Int) == 9) = false := by simp; omega
      have qe10 : ((c : Int) == 10) = false := by simp; omega
      have qe13 : ((c : Int) == 13) = true := by simp; omega
      have hg : blC c = true := by unfold blC; simp; omega
      have hg : Hid2 (blC c = true) := hg
      clear h
      go_wp2_with fail
      go_meet
      case rel => exact ⟨by rw [hg.out], HB⟩
    · skip
      have qe9 : ((c : Int) == 9) = false := by simp; omega
      have qe10 : ((c : Int) == 10) = false := by simp; omega
      have qe13 : ((c : Int) == 13) = false := by simp; omega
      have qe32 : ((c : Int) == 32) = true := by simp; omega
      have hg : blC c = true := by unfold blC; simp; omega
      have hg : Hid2 (blC c = true) := hg
      clear h
      go_wp2_with fail
      go_meet
      case rel => exact ⟨by rw [hg.out], HB⟩
    · skip
      have qe9 : ((c : Int) == 9) = false := by simp; omega
      have qe10 : ((c : Int) == 10) = false := by simp; omega
      have qe13 : ((c : Int) == 13) = false := by simp; omega
      have qe32 : ((c : Int) == 32) = false := by simp; omega
      have hg : blC c = false := by unfold blC; simp; omega
      have hg : Hid2 (blC c = false) := hg
      clear h
      go_wp2_with fail
      go_meet
      case rel => exact ⟨by rw [hg.out], HB⟩
  case rest =>
  clear HB
  obtain ⟨rfl, HB⟩ := hcut
  have b1 := blank_one c hc
  have b2 := blank_nil
  go_upto_region 14 with fail
  go_cut [11, 162] (fun _ s wx => s = .bool false ∧ Below w.heap.size w wx)
  case first =>
   as_aux_lemma =>
    have g1 : ∀ W, Calls Tryd.prog 6 #[.string (oneB c)] W fun e w' => e = .returned (.bool (blC c)) ∧ Below W.heap.size W w' := fun W => by
      have := Blank_any (oneB c) (by rw [z1]; decide) W
      rwa [b1] at this
    have g2 : ∀ W, Calls Tryd.prog 6 #[.string { data := #[] }] W fun e w' => e = .returned (.bool true) ∧ Below W.heap.size W w' := fun W => by
      have := Blank_any { data := #[] } (by decide) W
      rwa [b2] at this
    have g3 : ∀ W, Calls Tryd.prog 6 #[.string S] W fun e w' => e = .returned (.bool (blC c && blankB fr && blankB bk)) ∧ Below W.heap.size W w' := fun W => by
      have := Blank_any S (by omega) W
      rwa [hSb.out] at this
    have g4 : ∀ W, Calls Tryd.prog 6 #[.string fr] W fun e w' => e = .returned (.bool (blankB fr)) ∧ Below W.heap.size W w' := fun W => Blank_any fr (by omega) W
    have g5 : ∀ W, Calls Tryd.prog 6 #[.string bk] W fun e w' => e = .returned (.bool (blankB bk)) ∧ Below W.heap.size W w' := fun W => Blank_any bk (by omega) W
    clear hSb x1 x2 f5 hf hb z2 b1 b2 z1 hS
    generalize blC c = bc at *
    generalize blankB fr = bf at *
    generalize blankB bk = bb at *
    cases bc <;> cases bf <;> cases bb <;> simp only [Bool.and_self, Bool.and_false, Bool.and_true] at g3
    all_goals
      go_wp2_with (first
        | (go_at_call_of 6 (Value.string (oneB c)); refine (g1 _).mono ?_; rintro e w5 ⟨rfl, hb5⟩; have HB := bstep (bstep HB (nbel _ _)) hb5; clear hb5)
        | (go_at_call_of 6 (Value.string { data := #[] }); refine (g2 _).mono ?_; rintro e w5 ⟨rfl, hb5⟩; have HB := bstep HB hb5; clear hb5)
        | (go_at_call_of 6 (Value.string S); refine (g3 _).mono ?_; rintro e w5 ⟨rfl, hb5⟩; have HB := bstep HB hb5; clear hb5)
        | (go_at_call_of 6 (Value.string fr); refine (g4 _).mono ?_; rintro e w5 ⟨rfl, hb5⟩; have HB := bstep HB hb5; clear hb5)
        | (go_at_call_of 6 (Value.string bk); refine (g5 _).mono ?_; rintro e w5 ⟨rfl, hb5⟩; have HB := bstep HB hb5; clear hb5))
      go_meet
      case rel => exact ⟨rfl, HB⟩
  case rest =>
  clear HB
  obtain ⟨rfl, HB⟩ := hcut
  clear b1 b2 f5 x1 x2 z1 z2
  have hTrim : ∀ W, Calls Tryd.prog 7 #[.string S] W fun e w' => e = .returned (.string (trimN S)) ∧ Below W.heap.size W w' := fun W => Trim_any S (by omega) W
  obtain ⟨k, hk1, hk2, hk3, hk4⟩ := trim_where S
  have t1 := trim_first S
  have t2 := trim_last S
  have hBS : ∀ W, Calls Tryd.prog 6 #[.string S] W fun e w' => e = .returned (.bool (decide ((trimN S).size = 0))) ∧ Below W.heap.size W w' := fun W => Blank_any S (by omega) W
  generalize trimN S = T at *
  go_upto_region 17 with (go_at_call 7; refine (hTrim _).mono ?_; rintro e w5 ⟨rfl, hb5⟩; have HB := bstep HB hb5; clear hb5)
  clear hTrim
  go_cut [193] (fun s wx => s = .bool false ∧ Below w.heap.size w wx)
  case first =>
   as_aux_lemma =>
    have hd : decide (S.size < T.size) = false := by simp; omega
    have hTS : T.size ≤ 281474976702465 := by omega
    clear hk2 hk3 hk4 hk1 hSb
    by_cases h0 : T.size = 0
    · have e0 : (T.toList == []) = true := by rw [nempty]; simp [h0]
      have hBS : ∀ W, Calls Tryd.prog 6 #[.string S] W fun e w' => e = .returned (.bool true) ∧ Below W.heap.size W w' := fun W => by
        have := hBS W
        rwa [decide_eq_true h0] at this
      clear h0 t1 t2
      go_wp2_with (go_at_call_of 6 (Value.string S); refine (hBS _).mono ?_; rintro e w5 ⟨rfl, hb5⟩; have HB := bstep HB hb5; clear hb5)
      go_meet
      case rel => exact ⟨rfl, HB⟩
    · have e0 : (T.toList == []) = false := by rw [nempty]; simp [h0]
      have hBS : ∀ W, Calls Tryd.prog 6 #[.string S] W fun e w' => e = .returned (.bool false) ∧ Below W.heap.size W w' := fun W => by
        have := hBS W
        rwa [decide_eq_false h0] at this
      have hp : 0 < T.size := by omega
      have t1 := t1 hp
      have t2 := t2 hp
      have l1 : ¬ ((T.size : Int) < 1) := by omega
      have l2 : ¬ ((T.size : Int) - 1 < 0) := by omega
      have hwr : wrap64 ((T.size : Int) - 1) = (T.size : Int) - 1 := by unfold wrap64; omega
      clear h0
      have g6 : ∀ W, Calls Tryd.prog 6 #[.string (T.extract 0 1)] W fun e w' => e = .returned (.bool false) ∧ Below W.heap.size W w' := fun W => by
        have := Blank_any (T.extract 0 1) (by rw [ByteArray.size_extract]; omega) W
        rwa [t1] at this
      have g7 : ∀ W, Calls Tryd.prog 6 #[.string (T.extract (T.size - 1) T.size)] W fun e w' => e = .returned (.bool false) ∧ Below W.heap.size W w' := fun W => by
        have := Blank_any (T.extract (T.size - 1) T.size) (by rw [ByteArray.size_extract]; omega) W
        rwa [t2] at this
      clear t1 t2
      go_wp2_with (first
        | (go_at_call_of 6 (Value.string S); refine (hBS _).mono ?_; rintro e w5 ⟨rfl, hb5⟩; have HB := bstep HB hb5; clear hb5)
        | (go_at_call 6; go_fit (g6 _); rintro e w5 ⟨rfl, hb5⟩; have HB := bstep HB hb5; clear hb5)
        | (go_at_call 6; go_fit (g7 _); rintro e w5 ⟨rfl, hb5⟩; have HB := bstep HB hb5; clear hb5))
      go_meet
      case rel => exact ⟨rfl, HB⟩
  case rest =>
  clear HB
  obtain ⟨rfl, HB⟩ := hcut
  clear t1 t2 hBS hSb
  go_wp2_with fail
  go_loopw [13] (fun v wr => ∃ j : Nat, j ≤ k ∧ v = .int .i64 (j : Int) ∧ Below w.heap.size w wr) (fun v _ => k - (intOf v).toNat)
  case atStart => exact ⟨0, Nat.zero_le _, rfl, HB⟩
  case round =>
    obtain ⟨j, hj, rfl, HB⟩ := hrel
    have hjT : j + T.size ≤ S.size := by omega
    have hE : j = k → S.extract j (j + T.size) = T := by rintro rfl; exact hk2
    have h1 : j = k → blankB (S.extract 0 j) = true := by rintro rfl; exact hk3
    have h2 : j = k → blankB (S.extract (j + T.size) S.size) = true := by rintro rfl; exact hk4
    clear hk1 hk2 hk3 hk4
    have q1 : ∀ W, Calls Tryd.prog 6 #[.string (S.extract 0 j)] W fun e w' => e = .returned (.bool (blankB (S.extract 0 j))) ∧ Below W.heap.size W w' := fun W => Blank_any _ (by rw [ByteArray.size_extract]; omega) W
    have q2 : ∀ W, Calls Tryd.prog 6 #[.string (S.extract (j + T.size) S.size)] W fun e w' => e = .returned (.bool (blankB (S.extract (j + T.size) S.size))) ∧ Below W.heap.size W w' := fun W => Blank_any _ (by rw [ByteArray.size_extract]; omega) W
    by_cases hjk : j = k
    · have hE := congrArg ByteArray.toList (hE hjk)
      rw [h1 hjk] at q1
      rw [h2 hjk] at q2
      clear h1 h2 hjk
      go_wp2_with (first
        | (go_at_call 6; go_fit (q1 _); rintro e w5 ⟨rfl, hb5⟩; have HB := bstep HB hb5; clear hb5)
        | (go_at_call 6; go_fit (q2 _); rintro e w5 ⟨rfl, hb5⟩; have HB := bstep HB hb5; clear hb5))
      go_ret
      exact ⟨rfl, HB⟩
    · have hlt : j + 1 ≤ k := by omega
      clear h1 h2 hE hjk
      generalize blankB (S.extract 0 j) = b1 at q1
      generalize blankB (S.extract (j + T.size) S.size) = b2 at q2
      cases b1 <;> cases b2
      all_goals
        go_wp2_with (first
          | (go_at_call 6; go_fit (q1 _); rintro e w5 ⟨rfl, hb5⟩; have HB := bstep HB hb5; clear hb5)
          | (go_at_call 6; go_fit (q2 _); rintro e w5 ⟨rfl, hb5⟩; have HB := bstep HB hb5; clear hb5))
      all_goals first
        | (go_ret; exact ⟨rfl, HB⟩)
        | (refine ⟨⟨j + 1, hlt, by go_num, HB⟩, ?_⟩; simp [intOf]; omega)
end Go.Proofs.YtmnjpkeeoeoegaaDoor

import Derived.Test.YtchfphakhmifmabGreatDoorMW
import Derived.Test.YtchfphakhmifmabGreatDoorXWr
namespace Go.Proofs.YtchfphakhmifmabGreatDoor
open Go.ChangeShapes Go.WideShapes Go.ChangeAt Go.RowKit Go.Shelf Go.Lib
def suf (t:ByteArray) (p:Nat):ByteArray:=t.extract p t.size
theorem suf_list (t:ByteArray) (p:Nat):(suf t p).data.toList = t.data.toList.drop p:=by
 unfold suf
 rw [list_ext,List.take_of_length_le (by rw [List.length_drop,tl_len];omega)]
theorem suf_size (t:ByteArray) (p:Nat):(suf t p).size = t.size - p:=size_ext t p t.size (Nat.le_refl _)
theorem ext_suf (t:ByteArray) (p a:Nat):(suf t p).extract a (suf t p).size = suf t (p + a):=by
 apply ba_ext
 rw [list_ext,suf_list,suf_list,List.drop_drop,List.take_of_length_le (by rw [List.length_drop,tl_len,suf_size];omega)]
theorem dropWhile_drop {α:Type} (p:α → Bool) (l:List α):l.dropWhile p = l.drop (l.findIdx (fun b=>!p b)):=by
 induction l with
 | nil=>rfl
 | cons b l ih =>
  rw [List.dropWhile_cons,List.findIdx_cons]
  cases h:p b
  ·simp
  ·simp [ih]
theorem tl_suf (t:ByteArray) (p:Nat):tlB (suf t p) = suf t (skN t p):=by
 apply ba_ext
 unfold tlB skN Lib.trimLeftS
 rw [bs_list,suf_list,suf_list,dropWhile_drop,List.drop_drop]
theorem has_pre (t:ByteArray) (p:Nat) (q:ByteArray):Lib.hasPrefix (t.data.toList.drop p) q.data.toList = hasN t p q:=by
 unfold Lib.hasPrefix hasN
 rw [Bool.eq_iff_iff,List.isPrefixOf_iff_prefix,List.prefix_iff_eq_take,Bool.and_eq_true,decide_eq_true_eq,decide_eq_true_eq]
 have e:(t.extract p (p + q.size)).data.toList = (t.data.toList.drop p).take q.size:=by rw [list_ext,Nat.add_sub_cancel_left]
 constructor
 ·intro h
  have hl:=congrArg List.length h
  rw [List.length_take,List.length_drop,tl_len,tl_len] at hl
  refine ⟨by omega,ba_ext ?_⟩
  rw [e,← tl_len q]
  exact h.symm
 ·rintro ⟨_,h⟩
  rw [tl_len,← e,h]
theorem cp_suf (t:ByteArray) (p:Nat) (q:ByteArray):cpB (suf t p) q = if hasN t p q = true then (suf t (p + q.size),true) else (suf t p,false):=by
 unfold cpB
 rw [suf_list,has_pre,ext_suf]
theorem has_one (t:ByteArray) (p:Nat) (c:UInt8):hasN t p ⟨#[c]⟩ = decide (p < t.size ∧ ch t p = c.toNat):=by
 rw [← has_pre]
 by_cases h:p < t.size
 ·obtain ⟨b,r,e,hc,hr⟩:=ch_drop t p h
  rw [e,← hc]
  unfold Lib.hasPrefix
  rw [Bool.eq_iff_iff]
  simp [h,UInt8.toNat_inj]
  exact eq_comm
 ·rw [List.drop_eq_nil_of_le (by rw [tl_len];omega),decide_eq_false (fun hh=>h hh.1)]
  rfl
theorem spQ_iff (t:ByteArray) (p:Nat):spQ t p = decide (p < t.size ∧ (ch t p = 34 ∨ ch t p = 39)):=by
 unfold spQ
 rw [has_one,has_one,Bool.eq_iff_iff]
 simp only [Bool.or_eq_true,decide_eq_true_eq]
 have e1:(34:UInt8).toNat = 34:=rfl
 have e2:(39:UInt8).toNat = 39:=rfl
 rw [e1,e2]
 omega
theorem fst_suf (t:ByteArray) (p c:Nat):endQ t p c = p + fstN (suf t p) c:=by
 unfold endQ fstN
 congr 2
 unfold lOf
 rw [suf_list,List.map_drop]
theorem qt_suf (t:ByteArray) (p:Nat) (hp:p ≤ t.size):qtB (suf t p) = if spQ t p = true then
  (t.extract (p + 1) (endQ t (p + 1) (ch t p)),(if endQ t (p + 1) (ch t p) < t.size then suf t (endQ t (p + 1) (ch t p) + 1) else E0),decide (endQ t (p + 1) (ch t p) < t.size)) else (E0,E0,false):=by
 by_cases h:p < t.size ∧ (ch t p = 34 ∨ ch t p = 39)
 ·have hc:ch (suf t p) 0 = ch t p:=ch_ext t p t.size 0 (by omega)
  rw [spQ_iff,decide_eq_true h,if_pos rfl]
  unfold qtB
  rw [if_pos ⟨by rw [suf_size];omega,by rw [hc];exact h.2⟩,ext_suf,hc]
  rw [fst_suf]
  generalize hk:fstN (suf t (p + 1)) (ch t p) = k
  have hz:(suf t (p + 1)).size = t.size - (p + 1):=suf_size _ _
  have e:(suf t (p + 1)).extract 0 k = t.extract (p + 1) (p + 1 + k):=by
   apply ba_ext
   rw [list_ext,suf_list,list_ext,Nat.add_sub_cancel_left,List.drop_zero,Nat.sub_zero]
  unfold qtR
  rw [e,ext_suf]
  have hd:k < (suf t (p + 1)).size ↔ p + 1 + k < t.size:=by rw [hz];omega
  simp only [hd,Nat.add_assoc]
 ·rw [spQ_iff,decide_eq_false h,if_neg (by decide)]
  unfold qtB
  rw [if_neg]
  rintro ⟨h1,h2⟩
  rw [suf_size] at h1
  have hc:ch (suf t p) 0 = ch t p:=ch_ext t p t.size 0 (by omega)
  rw [hc] at h2
  exact h ⟨by omega,h2⟩
theorem set_suf (t:ByteArray) (p:Nat) (hp:p ≤ t.size) (ok:ByteArray → Bool) (nm:ByteArray) :
  setB ok nm (suf t p) = if (saidZ t p nm).2.1 = true ∧ ok (saidZ t p nm).1 = true then (suf t (saidZ t p nm).2.2,true) else (suf t p,false):=by
 have m1:=skN_le t p hp
 unfold setB
 rw [tl_suf,cp_suf]
 have e0:decide ((suf t (skN t p)).size < (suf t p).size) = decide (p < skN t p):=by
  rw [suf_size,suf_size];apply decide_eq_decide.2;omega
 rw [e0]
 unfold saidZ
 by_cases h1:p < skN t p
 ·by_cases h2:hasN t (skN t p) nm = true
  ·rw [if_pos h2]
   simp only [decide_eq_true h1,h2,Bool.true_and,if_true]
   rw [tl_suf,show skN t (skN t p + nm.size) = sp2 t p nm from rfl,cp_suf]
   have m2:=has_le m1.2 h2
   have m3:=(skN_le t _ m2).2
   rw [show skN t (skN t p + nm.size) = sp2 t p nm from rfl] at m3
   by_cases h3:hasN t (sp2 t p nm) ⟨#[61]⟩ = true
   ·rw [if_pos h3,if_pos h3]
    have m4:sp2 t p nm + 1 ≤ t.size:=has_le m3 h3
    simp only [Bool.true_and]
    rw [show (⟨#[61]⟩:ByteArray).size = 1 from rfl,tl_suf,show skN t (sp2 t p nm + 1) = sp3 t p nm from rfl,qt_suf t (sp3 t p nm) (skN_le t _ m4).2]
    by_cases h4:spQ t (sp3 t p nm) = true
    ·rw [if_pos h4,if_pos h4]
     by_cases h5:endQ t (sp3 t p nm + 1) (ch t (sp3 t p nm)) < t.size
     ·simp only [h5,decide_true,Bool.true_and,if_true,true_and]
     ·simp only [h5,decide_false,Bool.false_and,if_false,Bool.false_eq_true,false_and]
    ·rw [if_neg h4,if_neg h4]
     simp
   ·rw [if_neg h3,if_neg h3]
    simp
  ·rw [if_neg h2]
   simp [h2]
 ·simp [h1]
theorem fold_low (x y:UInt8) (h:¬ (65 ≤ y.toNat ∧ y.toNat ≤ 90)):Lib.foldEq x y = decide (lowN x.toNat = y.toNat):=by
 unfold Lib.foldEq lowN
 apply decide_eq_decide.2
 split <;> omega
theorem fold_list:∀ (l m:List UInt8),(∀ y ∈ m,¬ (65 ≤ y.toNat ∧ y.toNat ≤ 90)) → Lib.equalFold l m = decide (l.map (fun b=>lowN b.toNat) = m.map UInt8.toNat)
 | [],[],_=>by simp [Lib.equalFold]
 | [],_ :: _,_=>by simp [Lib.equalFold]
 | _ :: _,[],_=>by simp [Lib.equalFold]
 | x :: l,y :: m,h=>by
  unfold Lib.equalFold
  rw [fold_low x y (h y (by simp)),fold_list l m (fun z hz=>h z (by simp [hz])),Bool.eq_iff_iff]
  simp
theorem lowN_lt (c:Nat) (h:c < 256):lowN c < 256:=by unfold lowN;split <;> omega
theorem enc_eq (v:ByteArray):decide (lowB v = ⟨#[117,116,102,45,56]⟩) = encB v:=by
 unfold encB
 rw [fold_list _ _ (by intro y hy;simp [UTFs] at hy;rcases hy with rfl | rfl | rfl | rfl | rfl <;> decide)]
 apply decide_eq_decide.2
 have e:lOf (lowB v) = v.data.toList.map (fun b=>lowN b.toNat):=by
  unfold lowB
  rw [lOf_sOf _ (fun b hb=>by
   obtain ⟨x,hx,rfl⟩:=List.mem_map.1 hb
   exact lowN_lt x (lOf_lt v x hx))]
  unfold lOf
  rw [List.map_map];rfl
 rw [← e]
 exact ⟨fun h=>by rw [h];rfl,fun h=>lOf_inj (h.trans rfl)⟩
theorem said_false {s:ByteArray} {a:Nat} {nm:ByteArray} (h:(saidZ s a nm).2.1 = false):(saidZ s a nm).2.2 = a:=by
 unfold saidZ at h ⊢
 split
 ·rename_i h1
  rw [if_pos h1] at h
  split
  ·rename_i h2
   rw [if_pos h2] at h
   split
   ·rename_i h3
    rw [if_pos h3] at h
    split
    ·rename_i h4
     rw [if_pos h4] at h
     exact absurd h (by simp)
    ·rfl
   ·rfl
  ·rfl
 ·rfl
theorem said_true {s:ByteArray} {a:Nat} {nm:ByteArray} (h:(saidZ s a nm).2.1 = true):hasN s (skN s a) nm = true:=by
 unfold saidZ at h
 split at h
 ·rename_i h1
  rw [Bool.and_eq_true] at h1
  exact h1.2
 ·exact absurd h (by simp)
theorem has_ch {t q:ByteArray} {p:Nat} (h:hasN t p q = true) (h0:0 < q.size):ch q 0 = ch t p:=by
 unfold hasN at h
 simp only [Bool.and_eq_true,decide_eq_true_eq] at h
 have:=ch_ext t p (p + q.size) 0 (by omega)
 rwa [h.2] at this
theorem has_not {t a b:ByteArray} {p:Nat} (h:hasN t p a = true) (ha:0 < a.size) (hb:0 < b.size) (hn:ch a 0 ≠ ch b 0):hasN t p b = false:=by
 cases e:hasN t p b
 ·rfl
 ·exact absurd ((has_ch h ha).trans (has_ch e hb).symm) hn
theorem said_not {t a:ByteArray} {p:Nat} {b:ByteArray} (h:hasN t (skN t p) a = true) (ha:0 < a.size) (hb:0 < b.size) (hn:ch a 0 ≠ ch b 0):(saidZ t p b).2.1 = false:=by
 cases e:(saidZ t p b).2.1
 ·rfl
 ·exact absurd (said_true e) (by rw [has_not h ha hb hn];decide)
end Go.Proofs.YtchfphakhmifmabGreatDoor

import Derived.Test.YtchfphakhmifmabGreatDoorMS
namespace Go.Proofs.YtchfphakhmifmabGreatDoor
open Go.ChangeShapes Go.WideShapes Go.ChangeAt Go.RowKit Go.Shelf Go.Lib
def stepZ (s:ByteArray) (f a:Nat):Sz :=
 if f = 66 then beginZ s
 else if f = 87 then declZ s
 else if f = 88 then contentZ s a
 else if f = 113 then textZ s a
 else if f = 115 then commentZ s a
 else if f = 114 then endZ s a
 else if f = 116 then startZ s a
 else if f = 153 then inTagZ s a
 else if f = 170 then tagEndZ a
 else if f = 171 then emptyEndZ s a
 else attrZ s a
theorem stepZ_begin (s:ByteArray) (a:Nat):stepZ s 66 a = beginZ s:=by unfold stepZ;rw [if_pos rfl]
theorem stepZ_declaration (s:ByteArray) (a:Nat):stepZ s 87 a = declZ s:=by unfold stepZ;rw [if_neg (by decide),if_pos rfl]
theorem stepZ_content (s:ByteArray) (a:Nat):stepZ s 88 a = contentZ s a:=by unfold stepZ;rw [if_neg (by decide),if_neg (by decide),if_pos rfl]
theorem stepZ_text (s:ByteArray) (a:Nat):stepZ s 113 a = textZ s a:=by unfold stepZ;rw [if_neg (by decide),if_neg (by decide),if_neg (by decide),if_pos rfl]
theorem stepZ_comment (s:ByteArray) (a:Nat):stepZ s 115 a = commentZ s a:=by unfold stepZ;rw [if_neg (by decide),if_neg (by decide),if_neg (by decide),if_neg (by decide),if_pos rfl]
theorem stepZ_endTag (s:ByteArray) (a:Nat):stepZ s 114 a = endZ s a:=by unfold stepZ;rw [if_neg (by decide),if_neg (by decide),if_neg (by decide),if_neg (by decide),if_neg (by decide),if_pos rfl]
theorem stepZ_startTag (s:ByteArray) (a:Nat):stepZ s 116 a = startZ s a:=by unfold stepZ;rw [if_neg (by decide),if_neg (by decide),if_neg (by decide),if_neg (by decide),if_neg (by decide),if_neg (by decide),if_pos rfl]
theorem stepZ_inTag (s:ByteArray) (a:Nat):stepZ s 153 a = inTagZ s a:=by unfold stepZ;rw [if_neg (by decide),if_neg (by decide),if_neg (by decide),if_neg (by decide),if_neg (by decide),if_neg (by decide),if_neg (by decide),if_pos rfl]
theorem stepZ_tagEnd (s:ByteArray) (a:Nat):stepZ s 170 a = tagEndZ a:=by unfold stepZ;rw [if_neg (by decide),if_neg (by decide),if_neg (by decide),if_neg (by decide),if_neg (by decide),if_neg (by decide),if_neg (by decide),if_neg (by decide),if_pos rfl]
theorem stepZ_emptyEnd (s:ByteArray) (a:Nat):stepZ s 171 a = emptyEndZ s a:=by unfold stepZ;rw [if_neg (by decide),if_neg (by decide),if_neg (by decide),if_neg (by decide),if_neg (by decide),if_neg (by decide),if_neg (by decide),if_neg (by decide),if_neg (by decide),if_pos rfl]
theorem stepZ_attribute (s:ByteArray) (a:Nat):stepZ s 172 a = attrZ s a:=by unfold stepZ;rw [if_neg (by decide),if_neg (by decide),if_neg (by decide),if_neg (by decide),if_neg (by decide),if_neg (by decide),if_neg (by decide),if_neg (by decide),if_neg (by decide),if_neg (by decide)]
def stOk (s:ByteArray) (f a:Nat):Prop :=
 (f = 66 ∧ a = 0 ∧ s.size ≤ 9223372036854775807) ∨ (s.size ≤ 1048576 ∧ (
  (f = 87 ∧ a = 0) ∨ (f = 88 ∧ a ≤ s.size) ∨ (f = 113 ∧ a < s.size ∧ ¬ ch s a = 60) ∨
  (f = 115 ∧ a + 2 ≤ s.size) ∨ (f = 114 ∧ a + 2 ≤ s.size) ∨ (f = 116 ∧ a + 1 ≤ s.size) ∨
  (f = 153 ∧ a ≤ s.size) ∨ (f = 170 ∧ a + 1 ≤ s.size) ∨ (f = 171 ∧ a + 1 ≤ s.size) ∨
  (f = 172 ∧ a ≤ s.size)))
theorem step_any (R:Nat) (s:ByteArray) (f a:Nat) (v:Nat → Value) (w:World) (h:RC w R v) (v0:v 0 = .string s) (v1:v 1 = .int .i64 (a:Int)) (hE:Env w) (hR:7 ≤ R) (hok:stOk s f a) :
  Calls Tryz.prog f #[.pointer (some ⟨R,0,none⟩)] w (StPost R w v (stepZ s f a)):=by
 rcases hok with ⟨rfl,rfl,hs⟩ | ⟨hs,⟨rfl,rfl⟩ | ⟨rfl,ha⟩ | ⟨rfl,ha,hc⟩ | ⟨rfl,ha⟩ | ⟨rfl,ha⟩ | ⟨rfl,ha⟩ | ⟨rfl,ha⟩ | ⟨rfl,ha⟩ | ⟨rfl,ha⟩ | ⟨rfl,ha⟩⟩
 ·rw [stepZ_begin];exact begin_any R s v w h v0 v1 hs
 ·rw [stepZ_declaration];exact declaration_any R s v w h v0 v1 (by omega) hE
 ·rw [stepZ_content];exact content_any R s a v w h v0 v1 ha
 ·rw [stepZ_text];exact text_any R s a v w h v0 v1 (by omega) (by omega)
 ·rw [stepZ_comment];exact comment_any R s a v w h v0 v1 ha (by omega) hE hR
 ·rw [stepZ_endTag];exact endTag_any R s a v w h v0 v1 ha (by omega)
 ·rw [stepZ_startTag];exact startTag_any R s a v w h v0 v1 ha (by omega)
 ·rw [stepZ_inTag];exact inTag_any R s a v w h v0 v1 ha (by omega)
 ·rw [stepZ_tagEnd];exact tagEnd_any R s a v w h v0 v1 (by omega)
 ·rw [stepZ_emptyEnd];exact emptyEnd_any R s a v w h v0 v1 ha (by omega)
 ·rw [stepZ_attribute];exact attribute_any R s a v w h v0 v1 ha (by omega)
def rank (f:Nat):Nat:=if f = 66 then 3 else if f = 88 then 2 else if f = 153 then 2 else 1
def StGo (s:ByteArray) (f a:Nat):Sz → Prop
 | .bad _ _=>True
 | .go none b none=>b = a
 | .go none _ (some _)=>False
 | .go (some g) b none=>stOk s g b ∧ a ≤ b ∧ rank g < rank f
 | .go (some g) b (some _)=>stOk s g b ∧ a < b
theorem valQ_val {s:ByteArray} {a:Nat} {q:UInt8} {v:ByteArray} {b:Nat} (ha:a < s.size) (h:valQ s a q = .val v b):a < b ∧ b ≤ s.size:=by
 unfold valQ at h
 have hu:=upN_le [60,q] s (a + 1) (by omega)
 split at h
 ·cases h
 ·split at h
  ·split at h
   ·injection h with h1 h2
    omega
   ·cases h
  ·cases h
theorem valueZ_val {s:ByteArray} {a:Nat} {v:ByteArray} {b:Nat} (h:valueZ s a = .val v b):a < b ∧ b ≤ s.size:=by
 unfold valueZ at h
 split at h
 ·cases h
 ·split at h
  ·exact valQ_val (by omega) h
  ·split at h
   ·exact valQ_val (by omega) h
   ·cases h
theorem step_go (s:ByteArray) (f a:Nat) (hok:stOk s f a):StGo s f a (stepZ s f a):=by
 rcases hok with ⟨rfl,rfl,hs⟩ | ⟨hs,⟨rfl,rfl⟩ | ⟨rfl,ha⟩ | ⟨rfl,ha,hc⟩ | ⟨rfl,ha⟩ | ⟨rfl,ha⟩ | ⟨rfl,ha⟩ | ⟨rfl,ha⟩ | ⟨rfl,ha⟩ | ⟨rfl,ha⟩ | ⟨rfl,ha⟩⟩
 ·rw [stepZ_begin]
  unfold beginZ
  split
  ·trivial
  ·split
   ·split
    ·exact ⟨.inr ⟨by omega,.inl ⟨rfl,rfl⟩⟩,Nat.le_refl _,by decide⟩
    ·exact ⟨.inr ⟨by omega,.inr (.inl ⟨rfl,Nat.zero_le _⟩)⟩,Nat.le_refl _,by decide⟩
   ·trivial
 ·rw [stepZ_declaration]
  unfold declZ
  split
  ·trivial
  ·rename_i h0
   have:=declN_pos h0
   exact ⟨.inr ⟨hs,.inr (.inl ⟨rfl,this.2⟩)⟩,by omega⟩
 ·rw [stepZ_content]
  unfold contentZ
  split
  ·rfl
  ·split
   ·split
    ·rename_i h;exact ⟨.inr ⟨hs,.inr (.inr (.inr (.inr (.inl ⟨rfl,by omega⟩))))⟩,Nat.le_refl _,by decide⟩
    ·split
     ·rename_i h;exact ⟨.inr ⟨hs,.inr (.inr (.inr (.inl ⟨rfl,by omega⟩)))⟩,Nat.le_refl _,by decide⟩
     ·split
      ·trivial
      ·exact ⟨.inr ⟨hs,.inr (.inr (.inr (.inr (.inr (.inl ⟨rfl,by omega⟩)))))⟩,Nat.le_refl _,by decide⟩
   ·rename_i h1 h2
    exact ⟨.inr ⟨hs,.inr (.inr (.inl ⟨rfl,by omega,h2⟩))⟩,Nat.le_refl _,by decide⟩
 ·rw [stepZ_text]
  unfold textZ
  split
  ·trivial
  ·have hu:=upN_le [60] s a (by omega)
   refine ⟨.inr ⟨hs,.inr (.inl ⟨rfl,hu.2⟩)⟩,?_⟩
   unfold upN
   rw [List.drop_eq_getElem_cons (by rw [tl_len];exact ha),List.findIdx_cons]
   have hne:[(60:UInt8)].contains (s.data.toList[a]'(by rw [tl_len];exact ha)) = false:=by
    rw [Bool.eq_false_iff]
    intro h
    apply hc
    simp at h
    unfold ch
    rw [List.getD_eq_getElem?_getD,List.getElem?_eq_getElem (by rw [tl_len];exact ha)]
    simp [h]
   rw [hne]
   simp
 ·rw [stepZ_comment]
  unfold commentZ
  split
  ·trivial
  ·rename_i hx
   have l1:=expZ_none hx
   split
   ·trivial
   ·rename_i hy
    have l2:=expZ_none hy
    split
    ·split
     ·trivial
     ·split
      ·exact ⟨.inr ⟨hs,.inr (.inl ⟨rfl,by omega⟩)⟩,by omega⟩
      ·trivial
    ·trivial
 ·rw [stepZ_endTag]
  unfold endZ
  split
  ·trivial
  ·rename_i nm b hz
   have hb:=nameZ_val hz
   split
   ·trivial
   ·rename_i hx
    have l1:=expZ_none hx
    have hk:=skN_le s b hb.2.2
    exact ⟨.inr ⟨hs,.inr (.inl ⟨rfl,by omega⟩)⟩,by omega⟩
 ·rw [stepZ_startTag]
  unfold startZ
  split
  ·trivial
  ·rename_i nm b hz
   have hb:=nameZ_val hz
   exact ⟨.inr ⟨hs,.inr (.inr (.inr (.inr (.inr (.inr (.inl ⟨rfl,by omega⟩))))))⟩,by omega⟩
 ·rw [stepZ_inTag]
  unfold inTagZ
  have hk:=skN_le s a ha
  split
  ·trivial
  ·split
   ·exact ⟨.inr ⟨hs,.inr (.inr (.inr (.inr (.inr (.inr (.inr (.inl ⟨rfl,by omega⟩)))))))⟩,hk.1,by decide⟩
   ·split
    ·exact ⟨.inr ⟨hs,.inr (.inr (.inr (.inr (.inr (.inr (.inr (.inr (.inl ⟨rfl,by omega⟩))))))))⟩,hk.1,by decide⟩
    ·split
     ·exact ⟨.inr ⟨hs,.inr (.inr (.inr (.inr (.inr (.inr (.inr (.inr (.inr ⟨rfl,by omega⟩))))))))⟩,hk.1,by decide⟩
     ·trivial
 ·rw [stepZ_tagEnd]
  exact ⟨.inr ⟨hs,.inr (.inl ⟨rfl,by omega⟩)⟩,by omega⟩
 ·rw [stepZ_emptyEnd]
  unfold emptyEndZ
  split
  ·trivial
  ·rename_i hx
   have l1:=expZ_none hx
   exact ⟨.inr ⟨hs,.inr (.inl ⟨rfl,by omega⟩)⟩,by omega⟩
 ·rw [stepZ_attribute]
  unfold attrZ
  split
  ·trivial
  ·rename_i nm b hz
   have hb:=nameZ_val hz
   split
   ·trivial
   ·rename_i hx
    have l1:=expZ_none hx
    have hk:=skN_le s b hb.2.2
    have hk2:=skN_le s (skN s b + 1) (by omega)
    split
    ·trivial
    ·rename_i vl c hy
     have hc:=valueZ_val hy
     exact ⟨.inr ⟨hs,.inr (.inr (.inr (.inr (.inr (.inr (.inl ⟨rfl,by omega⟩))))))⟩,by omega⟩
end Go.Proofs.YtchfphakhmifmabGreatDoor

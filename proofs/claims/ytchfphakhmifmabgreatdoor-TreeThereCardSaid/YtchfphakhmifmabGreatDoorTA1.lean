import Derived.Test.YtchfphakhmifmabGreatDoorXTk
namespace Go.Proofs.YtchfphakhmifmabGreatDoor
set_option maxRecDepth 1000000
set_option maxHeartbeats 16000000
open Go
section
variable {P:Program} {ops:Array Oper} {Q:Exit → Act → World → Prop} {md:Region.Mode} {S:World → Prop} {z:Nat}
def wpAnyF (P:Program) (md:Region.Mode) (ops:Array Oper) (Q:Exit → Act → World → Prop) (S:World → Prop) (z:Nat):Nat → Array Bool → Act → World → Prop
 | 0,listed,a,w=>Region.ready md ops listed = [] ∧ Q .normal a w
 | fuel + 1,listed,a,w =>
  (Region.ready md ops listed = [] → Q .normal a w) ∧
  ∀ i ∈ Region.ready md ops listed,wpOp P ops Q i (fun a' w'=>(i ≠ z → S w') ∧ wpAnyF P md ops Q S z fuel (listed.setIfInBounds i true) a' w') a w
theorem wpAny_of_F:∀ (fuel:Nat) (listed:Array Bool) (a:Act) (w:World),wpAnyF P md ops Q S z fuel listed a w → wpAny P md ops Q fuel listed a w
 | 0,_,_,_,h=>h
 | fuel + 1,_,_,_,h=>⟨h.1,fun i hi=>wpOp_mono (fun a' w' h'=>wpAny_of_F fuel _ a' w' h'.2) (h.2 i hi)⟩
def waitsB (md:Region.Mode) (ops:Array Oper) (z i:Nat):Bool:=match ops[z]? with
 | some o=>o.after.any fun e=>Region.binds md e && e.on == i
 | none=>true
theorem not_ready {i:Nat} {listed:Array Bool} (hw:waitsB md ops z i = true) (hi:i ∈ Region.ready md ops listed):z ∉ Region.ready md ops listed:=fun hz=>by
 obtain ⟨_,oz,hoz,hall⟩:=mem_ready.1 hz
 unfold waitsB at hw
 rw [hoz] at hw
 obtain ⟨e,he,hb⟩:=Array.any_eq_true'.1 hw
 simp only [Bool.and_eq_true,beq_iff_eq] at hb
 have h1:=hall e he hb.1
 rw [hb.2] at h1
 have h0:=(mem_ready.1 hi).1
 rcases Nat.lt_or_ge i listed.size with h' | h'
 ·simp [h'] at h0 h1;rw [h0] at h1;cases h1
 ·simp [Array.getElem?_eq_none h'] at h1
theorem wpAnyF_first {i:Nat} {oi:Oper} {v:Value} (hi:ops[i]? = some oi) (hsel:∀ (j:Nat) (o:Oper) cs b,ops[j]? = some o → o.op ≠ .select cs b)
  (hQ:∀ c a w,Q (.panic c) (a.put oi.dst v) w → Q (.panic c) a w) (hw:waitsB md ops z i = true) (hiz:i ≠ z) :
  ∀ (fuel:Nat) (listed:Array Bool) (a:Act) (w:World),
   (∀ j oj,ops[j]? = some oj → j ≠ i → listed.getD j true = false → (∀ e ∈ oj.after,Region.binds md e = true → e.on ≠ i) → oi.apart ops oj = true) →
   i ∈ Region.ready md ops listed → YieldsIf P ops S oi v a → S w →
   wpAnyF P md ops Q S z fuel (listed.setIfInBounds i true) (a.put oi.dst v) w → wpAnyF P md ops Q S z (fuel + 1) listed a w:=by
 intro fuel
 induction fuel with
 | zero =>
  intro listed a w _ hr hy hS H
  refine ⟨fun h=>(by rw [h] at hr;cases hr),fun j hj=>?_⟩
  by_cases hji:j = i
  ·subst hji;exact hy.wpOp hi hS ⟨fun _=>hS,H⟩
  ·have:=ready_mono hj hji
   rw [H.1] at this
   cases this
 | succ fuel ih =>
  intro listed a w hfree hr hy hS H
  refine ⟨fun h=>(by rw [h] at hr;cases hr),fun j hj=>?_⟩
  by_cases hji:j = i
  ·subst hji;exact hy.wpOp hi hS ⟨fun _=>hS,H⟩
  ·have hjz:j ≠ z:=fun e=>not_ready hw hr (e ▸ hj)
   have h1:=H.2 j (ready_mono hj hji)
   obtain ⟨hjun,oj,hoj,hall⟩:=mem_ready.1 hj
   have hnot:∀ e ∈ oj.after,Region.binds md e = true → e.on ≠ i:=fun e he hb heq=>by
    have h1:=hall e he hb
    have h0:=(mem_ready.1 hr).1
    rw [heq] at h1
    rcases Nat.lt_or_ge i listed.size with h' | h'
    ·simp [h'] at h0 h1;rw [h0] at h1;cases h1
    ·simp [Array.getElem?_eq_none h'] at h1
   have h2:=wpOp_putIf hoj (hfree j oj hoj hji hjun hnot) (fun cs b=>hsel i oi cs b hi) (fun cs b=>hsel j oj cs b hoj) hQ hy h1
   have hfree':∀ k ok,ops[k]? = some ok → k ≠ i → (listed.setIfInBounds j true).getD k true = false →
     (∀ e ∈ ok.after,Region.binds md e = true → e.on ≠ i) → oi.apart ops ok = true:=fun k ok hk hki hun hno=>by
    refine hfree k ok hk hki ?_ hno
    by_cases hjk:j = k
    ·subst hjk;exact hjun
    ·rw [getD_set_ne true hjk] at hun;exact hun
   refine wpOp_mono (fun a' w' h3=>⟨h3.2.1,ih (listed.setIfInBounds j true) a' w' hfree' (ready_mono hr (Ne.symm hji)) h3.1 (h3.2.1 hjz) ?_⟩) h2
   rw [Array.setIfInBounds_comm _ _ hji]
   exact h3.2.2
theorem wpAnyF_take {i:Nat} {oi:Oper} {v:Value} {fuel:Nat} {listed:Array Bool} {a:Act} {w:World} (hi:ops[i]? = some oi)
  (hs:Region.noSelect ops = true) (hf:Region.free md ops listed i = true) (hr:(Region.ready md ops listed).contains i = true) (hw:(waitsB md ops z i && !(i == z)) = true)
  (hQ:∀ c a w,Q (.panic c) (a.put oi.dst v) w → Q (.panic c) a w) (hy:YieldsIf P ops S oi v a) (hS:S w)
  (h:wpAnyF P md ops Q S z fuel (listed.setIfInBounds i true) (a.put oi.dst v) w):wpAnyF P md ops Q S z (fuel + 1) listed a w:=by
 simp only [Bool.and_eq_true,Bool.not_eq_true',beq_eq_false_iff_ne] at hw
 exact wpAnyF_first hi (Region.noSelect_spec hs) hQ hw.1 hw.2 fuel listed a w (Region.free_spec hi hf) (by simpa using hr) hy hS h
def AllReadyF (P:Program) (md:Region.Mode) (ops:Array Oper) (Q:Exit → Act → World → Prop) (S:World → Prop) (z:Nat) (fuel:Nat) (listed:Array Bool) (a:Act) (w:World) (rs:List Nat):Prop :=
 ∀ i ∈ rs,wpOp P ops Q i (fun a' w'=>(i ≠ z → S w') ∧ wpAnyF P md ops Q S z fuel (listed.setIfInBounds i true) a' w') a w
theorem AllReadyF.nil {fuel:Nat} {listed:Array Bool} {a:Act} {w:World}:AllReadyF P md ops Q S z fuel listed a w []:=fun _ h=>by cases h
theorem AllReadyF.cons {fuel:Nat} {listed:Array Bool} {a:Act} {w:World} {i:Nat} {o:Oper} {rs:List Nat} (ho:ops[i]? = some o)
  (h:∀ K':Act → World → Prop,Shut (∀ a w,S w → (S w → wpAnyF P md ops Q S z fuel (listed.setIfInBounds i true) a w) → K' a w) → if Region.wanted o (yielded ops a.tmps) = true then Oper.wp P o a w K' Q else K' (a.put o.dst undef) w)
  (hs:AllReadyF P md ops Q S z fuel listed a w rs):AllReadyF P md ops Q S z fuel listed a w (i :: rs):=fun j hj=>by
 rcases List.mem_cons.1 hj with rfl | hj
 ·exact wpOp_step ho (fun K' hK=>h K' (fun a w hS hW=>hK a w ⟨fun _=>hS,hW hS⟩))
 ·exact hs j hj
theorem AllReadyF.last {fuel:Nat} {listed:Array Bool} {a:Act} {w:World} {o:Oper} {rs:List Nat} (ho:ops[z]? = some o)
  (h:∀ K':Act → World → Prop,Shut (∀ a w,True → (True → wpAnyF P md ops Q S z fuel (listed.setIfInBounds z true) a w) → K' a w) → if Region.wanted o (yielded ops a.tmps) = true then Oper.wp P o a w K' Q else K' (a.put o.dst undef) w)
  (hs:AllReadyF P md ops Q S z fuel listed a w rs):AllReadyF P md ops Q S z fuel listed a w (z :: rs):=fun j hj=>by
 rcases List.mem_cons.1 hj with rfl | hj
 ·exact wpOp_step ho (fun K' hK=>h K' (fun a w _ hW=>hK a w ⟨fun h=>absurd rfl h,hW trivial⟩))
 ·exact hs j hj
theorem wpAnyF_ready {rs:List Nat} {fuel:Nat} {listed:Array Bool} {a:Act} {w:World} (hr:Region.ready md ops listed = rs) (hne:rs ≠ [])
 (h:AllReadyF P md ops Q S z fuel listed a w rs):wpAnyF P md ops Q S z (fuel + 1) listed a w:=⟨fun h0=>absurd (hr ▸ h0) hne,hr ▸ h⟩
theorem wpAnyF_done {listed:Array Bool} {a:Act} {w:World} (hr:Region.ready md ops listed = []) (h:Q .normal a w):∀ fuel,wpAnyF P md ops Q S z fuel listed a w
 | 0=>⟨hr,h⟩
 | _ + 1=>⟨fun _=>h,by rw [hr];simp⟩
theorem wp_region_F {id:Nat} (z:Nat) (S:World → Prop) {a:Act} {w:World} (hm:P.follows .mixedOrders = true) (hS:S w.drew)
  (h:S w.drew → wpAnyF P .any ops Q S z ops.size (Array.replicate ops.size false) a w.drew):(Code.region id ops true).wp P Q a w :=
 wp_region_any hm (wpAny_of_F _ _ _ _ (h hS))
end
open Go.ChangeShapes Go.WideShapes Go.ChangeAt Go.RowKit
theorem pts:(∀ (a:Act) (d:Tmp) (v:Value),a.put (some d) v = { a with tmps:=a.tmps.setIfInBounds d v }) ∧ (∀ (a:Act) (v:Value),a.put none v = a) ∧ (∀ (l:List Value) (i:Nat) (v:Value),l.toArray.setIfInBounds i v = (l.set i v).toArray) ∧ (∀ (l:List Value) (x v:Value),(x :: l).set 0 v = v :: l) ∧ (∀ (l:List Value) (x v:Value) (n:Nat),(x :: l).set (n + 1) v = x :: l.set n v) :=
 ⟨fun _ _ _=>rfl,fun _ _=>rfl,fun _ _ _=>List.setIfInBounds_toArray ..,fun _ _ _=>rfl,fun _ _ _ _=>rfl⟩
section
variable {P:Program} {ops:Array Oper} {Q:Exit → Act → World → Prop} {md:Region.Mode} {S:World → Prop}
def tkB (md:Region.Mode) (ops:Array Oper) (listed:Array Bool) (i:Nat):Bool:=Region.noSelect ops && Region.free md ops listed i && (Region.ready md ops listed).contains i
theorem tkB_of {listed:Array Bool} {i:Nat} (h:tkB md ops listed i = true):Region.noSelect ops = true ∧ Region.free md ops listed i = true ∧ (Region.ready md ops listed).contains i = true:=by
 unfold tkB at h
 rw [Bool.and_eq_true,Bool.and_eq_true] at h
 exact ⟨h.1.1,h.1.2,h.2⟩
theorem tkH (i:Nat) {d:Tmp} {op:Op} {ty:TypeId} {ps:String} {af:Array Edge} {v:Value} {fuel:Nat} {listed:Array Bool} {a:Act} {w:World}
  (hi:ops[i]? = some ⟨some d,op,ty,ps,af,none⟩) (hb:tkB md ops listed i = true) (hQ:∀ c a w,Q (.panic c) (a.put (some d) v) w → Q (.panic c) a w) (hS:S w)
  (hy:∀ w,S w → (execOp a.eval ⟨some d,op,ty,ps,af,none⟩).run P w = .ok (.value v) w) (h:wpAnyH P md ops Q S fuel (listed.setIfInBounds i true) (a.put (some d) v) w):wpAnyH P md ops Q S (fuel + 1) listed a w :=
 wpAnyH_take hi (tkB_of hb).1 (tkB_of hb).2.1 (tkB_of hb).2.2 hQ (.inl ⟨rfl,hy⟩) hS h
theorem arH {fuel:Nat} {listed:Array Bool} {a:Act} {w:World} {i:Nat} {d:Option Tmp} {op:Op} {ty:TypeId} {ps:String} {af:Array Edge} {gd:Option (Nat × Bool)} {rs:List Nat} (ho:ops[i]? = some ⟨d,op,ty,ps,af,gd⟩)
 (h:∀ K':Act → World → Prop,Shut (∀ a w,S w → (S w → wpAnyH P md ops Q S fuel (listed.setIfInBounds i true) a w) → K' a w) → if Region.wanted ⟨d,op,ty,ps,af,gd⟩ (yielded ops a.tmps) = true then Oper.wp P ⟨d,op,ty,ps,af,gd⟩ a w K' Q else K' (a.put d undef) w)
 (hs:AllReadyH P md ops Q S fuel listed a w rs):AllReadyH P md ops Q S fuel listed a w (i :: rs):=AllReadyH.cons ho h hs
variable {z:Nat}
theorem tkF (i:Nat) {d:Tmp} {op:Op} {ty:TypeId} {ps:String} {af:Array Edge} {v:Value} {fuel:Nat} {listed:Array Bool} {a:Act} {w:World}
  (hi:ops[i]? = some ⟨some d,op,ty,ps,af,none⟩) (hb:(tkB md ops listed i && (waitsB md ops z i && !(i == z))) = true) (hQ:∀ c a w,Q (.panic c) (a.put (some d) v) w → Q (.panic c) a w) (hS:S w)
  (hy:∀ w,S w → (execOp a.eval ⟨some d,op,ty,ps,af,none⟩).run P w = .ok (.value v) w) (h:wpAnyF P md ops Q S z fuel (listed.setIfInBounds i true) (a.put (some d) v) w):wpAnyF P md ops Q S z (fuel + 1) listed a w:=by
 rw [Bool.and_eq_true] at hb
 exact wpAnyF_take hi (tkB_of hb.1).1 (tkB_of hb.1).2.1 (tkB_of hb.1).2.2 hb.2 hQ (.inl ⟨rfl,hy⟩) hS h
theorem arF {fuel:Nat} {listed:Array Bool} {a:Act} {w:World} {i:Nat} {d:Option Tmp} {op:Op} {ty:TypeId} {ps:String} {af:Array Edge} {gd:Option (Nat × Bool)} {rs:List Nat} (ho:ops[i]? = some ⟨d,op,ty,ps,af,gd⟩)
 (h:∀ K':Act → World → Prop,Shut (∀ a w,S w → (S w → wpAnyF P md ops Q S z fuel (listed.setIfInBounds i true) a w) → K' a w) → if Region.wanted ⟨d,op,ty,ps,af,gd⟩ (yielded ops a.tmps) = true then Oper.wp P ⟨d,op,ty,ps,af,gd⟩ a w K' Q else K' (a.put d undef) w)
 (hs:AllReadyF P md ops Q S z fuel listed a w rs):AllReadyF P md ops Q S z fuel listed a w (i :: rs):=AllReadyF.cons ho h hs
theorem laF {fuel:Nat} {listed:Array Bool} {a:Act} {w:World} {d:Option Tmp} {op:Op} {ty:TypeId} {ps:String} {af:Array Edge} {gd:Option (Nat × Bool)} {rs:List Nat} (ho:ops[z]? = some ⟨d,op,ty,ps,af,gd⟩)
 (h:∀ K':Act → World → Prop,Shut (∀ a w,True → (True → wpAnyF P md ops Q S z fuel (listed.setIfInBounds z true) a w) → K' a w) → if Region.wanted ⟨d,op,ty,ps,af,gd⟩ (yielded ops a.tmps) = true then Oper.wp P ⟨d,op,ty,ps,af,gd⟩ a w K' Q else K' (a.put d undef) w)
 (hs:AllReadyF P md ops Q S z fuel listed a w rs):AllReadyF P md ops Q S z fuel listed a w (z :: rs):=AllReadyF.last ho h hs
end
structure Att where
 nm:ByteArray
 vl:ByteArray
 p:Int
structure El where
 d:Int
 nm:ByteArray
 ats:List Att
 tx:ByteArray
 p:Int
def attC (a:Att):List Value:=[.string a.nm,.string a.vl,.int .i64 a.p]
def attCells (al:List Att):List Value:=al.flatMap attC
theorem attCells_length (al:List Att):(attCells al).length = al.length * 3:=by
 induction al with
 | nil=>rfl
 | cons a r ih =>
  unfold attCells at ih ⊢
  rw [List.flatMap_cons,List.length_append,ih,List.length_cons]
  show 3 + _ = _
  omega
theorem attCells_one (al:List Att):∀ u ∈ attCells al,u.oneCell' = true:=by
 intro u hu
 obtain ⟨a,_,h⟩:=List.mem_flatMap.1 hu
 simp only [attC,List.mem_cons,List.not_mem_nil,or_false] at h
 rcases h with rfl | rfl | rfl <;> rfl
structure ARow (w:World) (pa:Option Addr) (H:Nat) (al:List Att):Prop where
 c:∀ (i:Nat) (t:Att),al[i]? = some t → ∃ g o,pa = some ⟨g,o,none⟩ ∧ g < H ∧ w.cell? ⟨g,o + i * 3,none⟩ = some (.string t.nm) ∧ w.cell? ⟨g,o + i * 3 + 1,none⟩ = some (.string t.vl) ∧ w.cell? ⟨g,o + i * 3 + 2,none⟩ = some (.int .i64 t.p)
theorem ARow.below {w w':World} {pa:Option Addr} {H:Nat} {al:List Att} (h:ARow w pa H al) (hb:Below H w w'):ARow w' pa H al :=
 ⟨fun i t ht=>by
  obtain ⟨g,o,e,hg,h0,h1,h2⟩:=h.c i t ht
  exact ⟨g,o,e,hg,(hb.cell (p:=⟨g,_,none⟩) hg).trans h0,(hb.cell (p:=⟨g,_,none⟩) hg).trans h1,(hb.cell (p:=⟨g,_,none⟩) hg).trans h2⟩⟩
theorem ARow.mono {w:World} {pa:Option Addr} {H H':Nat} {al:List Att} (h:ARow w pa H al) (hH:H ≤ H'):ARow w pa H' al :=
 ⟨fun i t ht=>by
  obtain ⟨g,o,e,hg,r⟩:=h.c i t ht
  exact ⟨g,o,e,Nat.lt_of_lt_of_le hg hH,r⟩⟩
structure ERow (w:World) (pp:Option Addr) (H:Nat) (es:List El):Prop where
 c:∀ (i:Nat) (e:El),es[i]? = some e → ∃ g o pa ca,pp = some ⟨g,o,none⟩ ∧ g < H ∧ w.cell? ⟨g,o + i * 5,none⟩ = some (.int .i64 e.d) ∧ w.cell? ⟨g,o + i * 5 + 1,none⟩ = some (.string e.nm) ∧ w.cell? ⟨g,o + i * 5 + 2,none⟩ = some (.slice pa e.ats.length ca) ∧
  w.cell? ⟨g,o + i * 5 + 3,none⟩ = some (.string e.tx) ∧ w.cell? ⟨g,o + i * 5 + 4,none⟩ = some (.int .i64 e.p) ∧ ARow w pa H e.ats
theorem ERow.below {w w':World} {pp:Option Addr} {H:Nat} {es:List El} (h:ERow w pp H es) (hb:Below H w w'):ERow w' pp H es :=
 ⟨fun i t ht=>by
  obtain ⟨g,o,pa,ca,e,hg,h0,h1,h2,h3,h4,h5⟩:=h.c i t ht
  exact ⟨g,o,pa,ca,e,hg,(hb.cell (p:=⟨g,_,none⟩) hg).trans h0,(hb.cell (p:=⟨g,_,none⟩) hg).trans h1,(hb.cell (p:=⟨g,_,none⟩) hg).trans h2,(hb.cell (p:=⟨g,_,none⟩) hg).trans h3,(hb.cell (p:=⟨g,_,none⟩) hg).trans h4,h5.below hb⟩⟩
theorem ERow.mono {w:World} {pp:Option Addr} {H H':Nat} {es:List El} (h:ERow w pp H es) (hH:H ≤ H'):ERow w pp H' es :=
 ⟨fun i t ht=>by
  obtain ⟨g,o,pa,ca,e,hg,h0,h1,h2,h3,h4,h5⟩:=h.c i t ht
  exact ⟨g,o,pa,ca,e,Nat.lt_of_lt_of_le hg hH,h0,h1,h2,h3,h4,h5.mono hH⟩⟩
theorem beq_ba {a b:ByteArray} (h:a ≠ b):(a.toList == b.toList) = false :=
 beq_eq_false_iff_ne.2 fun e=>h (by
  rw [ByteArray.toList_eq,ByteArray.toList_eq] at e
  exact ByteArray.ext (Array.toList_inj.1 e))
def cI (n:Nat):Value:=.int .i64 (n:Int)
structure EC (w:World) (pp:Option Addr) (H:Nat) (es:List El):Prop where
 c:∀ (i:Nat) (e:El),es[i]? = some e → ∃ g o pa ca,pp = some ⟨g,o,none⟩ ∧ g < H ∧ w.cell? ⟨g,o + i * 5,none⟩ = some (.int .i64 e.d) ∧ w.cell? ⟨g,o + i * 5 + 1,none⟩ = some (.string e.nm) ∧ w.cell? ⟨g,o + i * 5 + 2,none⟩ = some (.slice pa e.ats.length ca) ∧
  w.cell? ⟨g,o + i * 5 + 3,none⟩ = some (.string e.tx) ∧ w.cell? ⟨g,o + i * 5 + 4,none⟩ = some (.int .i64 e.p) ∧ ARow w pa H e.ats ∧ e.ats.length ≤ ca
theorem EC.erow {w:World} {pp:Option Addr} {H:Nat} {es:List El} (h:EC w pp H es):ERow w pp H es :=
 ⟨fun i t ht=>by
  obtain ⟨g,o,pa,ca,e,hg,h0,h1,h2,h3,h4,h5,_⟩:=h.c i t ht
  exact ⟨g,o,pa,ca,e,hg,h0,h1,h2,h3,h4,h5⟩⟩
theorem EC.below {w w':World} {pp:Option Addr} {H:Nat} {es:List El} (h:EC w pp H es) (hb:Below H w w'):EC w' pp H es :=
 ⟨fun i t ht=>by
  obtain ⟨g,o,pa,ca,e,hg,h0,h1,h2,h3,h4,h5,h6⟩:=h.c i t ht
  exact ⟨g,o,pa,ca,e,hg,(hb.cell (p:=⟨g,_,none⟩) hg).trans h0,(hb.cell (p:=⟨g,_,none⟩) hg).trans h1,(hb.cell (p:=⟨g,_,none⟩) hg).trans h2,(hb.cell (p:=⟨g,_,none⟩) hg).trans h3,(hb.cell (p:=⟨g,_,none⟩) hg).trans h4,h5.below hb,h6⟩⟩
theorem EC.mono {w:World} {pp:Option Addr} {H H':Nat} {es:List El} (h:EC w pp H es) (hH:H ≤ H'):EC w pp H' es :=
 ⟨fun i t ht=>by
  obtain ⟨g,o,pa,ca,e,hg,h0,h1,h2,h3,h4,h5,h6⟩:=h.c i t ht
  exact ⟨g,o,pa,ca,e,Nat.lt_of_lt_of_le hg hH,h0,h1,h2,h3,h4,h5.mono hH,h6⟩⟩
theorem ownLt {W:World} {base:Nat} {e:TypeId} {s:Nat} {v:Value} {n:Nat} {xs:List Value} (h:W.ownsRow base e s v n xs) {k:Nat} (hk:v.ownBlock = some k):base ≤ k ∧ k < W.heap.size:=by
 rcases h.2 with ⟨rfl,_⟩ | ⟨g,cap,cur,rfl,hb',hg,r⟩
 ·cases hk
 ·cases hk;exact ⟨hb',(Array.getElem?_eq_some_iff.1 hg).1⟩
theorem ownSame {W W':World} {base:Nat} {e:TypeId} {s:Nat} {v:Value} {n:Nat} {xs:List Value} (h:W.ownsRow base e s v n xs) (hb:∀ k,v.ownBlock = some k → W'.heap[k]? = W.heap[k]?):W'.ownsRow base e s v n xs:=by
 refine ⟨h.1,?_⟩
 rcases h.2 with h0 | ⟨g,cap,cur,rfl,hb',hg,r⟩
 ·exact .inl h0
 ·exact .inr ⟨g,cap,cur,rfl,hb',(hb g rfl).trans hg,r⟩
structure Rw where
 ty:TypeId
 sz:Nat
 v:Value
 n:Nat
 xs:List Value
def Rw.own (r:Rw) (W:World) (bot:Nat):Prop:=W.ownsRow bot r.ty r.sz r.v r.n r.xs
structure PF (W:World) (bot:Nat) (f:Nat → Rw):Prop where
 own:∀ c,(f c).own W bot
 apart:∀ c c',c ≠ c' → ∀ k,(f c).v.ownBlock = some k → (f c').v.ownBlock ≠ some k
def upF (f:Nat → Rw) (c:Nat) (r:Rw):Nat → Rw:=fun x=>if x = c then r else f x
theorem upF_same (f:Nat → Rw) (c:Nat) (r:Rw):upF f c r c = r:=if_pos rfl
theorem upF_ne (f:Nat → Rw) (c:Nat) (r:Rw) {x:Nat} (h:x ≠ c):upF f c r x = f x:=if_neg h
theorem PF.lt {W:World} {bot:Nat} {f:Nat → Rw} (h:PF W bot f) (c:Nat) {k:Nat} (hk:(f c).v.ownBlock = some k):bot ≤ k ∧ k < W.heap.size:=ownLt (h.own c) hk
theorem PF.same {W W':World} {bot:Nat} {f:Nat → Rw} (h:PF W bot f) (hb:∀ k,bot ≤ k → k < W.heap.size → W'.heap[k]? = W.heap[k]?):PF W' bot f :=
 ⟨fun c=>ownSame (h.own c) fun k hk=>hb k (h.lt c hk).1 (h.lt c hk).2,h.apart⟩
theorem PF.keep {W W':World} {bot:Nat} {f:Nat → Rw} (h:PF W bot f) (hb:Below W.heap.size W W'):PF W' bot f:=h.same fun k _ hk=>hb.block k hk
theorem PF.upd {W W':World} {bot:Nat} {f:Nat → Rw} (h:PF W bot f) (c:Nat) {r:Rw} (hO:r.own W' bot) (hv:∀ k,r.v.ownBlock = some k → (f c).v.ownBlock = some k ∨ W.heap.size ≤ k) (hk:∀ k,bot ≤ k → k < W.heap.size → (f c).v.ownBlock ≠ some k → W'.heap[k]? = W.heap[k]?):PF W' bot (upF f c r):=by
 have hap:∀ d,d ≠ c → ∀ k,r.v.ownBlock = some k → (f d).v.ownBlock ≠ some k:=fun d hd k hk1 e=>by
  rcases hv k hk1 with h1 | h1
  ·exact h.apart d c hd k e h1
  ·have:=(h.lt d e).2;omega
 refine ⟨fun d=>?_,fun d d' hne k hk1 hk2=>?_⟩
 ·by_cases hd:d = c
  ·subst hd;rw [upF_same];exact hO
  ·rw [upF_ne _ _ _ hd]
   exact ownSame (h.own d) fun k hk'=>hk k (h.lt d hk').1 (h.lt d hk').2 fun e=>h.apart d c hd k hk' e
 ·by_cases hd:d = c
  ·subst hd
   rw [upF_same] at hk1
   rw [upF_ne _ _ _ (fun e=>hne e.symm)] at hk2
   exact hap d' (fun e=>hne e.symm) k hk1 hk2
  ·rw [upF_ne _ _ _ hd] at hk1
   by_cases hd':d' = c
   ·subst hd'
    rw [upF_same] at hk2
    exact hap d hd k hk2 hk1
   ·rw [upF_ne _ _ _ hd'] at hk2
    exact h.apart d d' hne k hk1 hk2
theorem flat_length {α:Type} (f:α → List Value) (z:Nat) (hf:∀ x,(f x).length = z) (l:List α):(l.flatMap f).length = l.length * z:=by
 induction l with
 | nil=>simp
 | cons a r ih=>rw [List.flatMap_cons,List.length_append,ih,List.length_cons,hf,Nat.add_mul];omega
theorem flat_get {α:Type} (f:α → List Value) (z:Nat) (hf:∀ x,(f x).length = z):∀ (l:List α) (i:Nat) (t:α),l[i]? = some t → ∀ j,j < z → (l.flatMap f)[i * z + j]? = (f t)[j]?
 | [],_,_,h,_,_=>by cases h
 | a :: r,0,t,h,j,hj=>by
  cases h
  rw [List.flatMap_cons,List.getElem?_append_left (by rw [hf];omega),Nat.zero_mul,Nat.zero_add]
 | a :: r,i + 1,t,h,j,hj=>by
  have ih:=flat_get f z hf r i t h j hj
  rw [List.flatMap_cons,List.getElem?_append_right (by rw [hf,Nat.add_mul];omega),hf,← ih]
  congr 1
  rw [Nat.add_mul]
  omega
theorem flat_set {α:Type} (f:α → List Value) (z:Nat) (hf:∀ x,(f x).length = z):∀ (l:List α) (i:Nat) (t t':α) (j:Nat) (u:Value),l[i]? = some t → j < z → f t' = (f t).set j u → (l.set i t').flatMap f = (l.flatMap f).set (i * z + j) u
 | [],_,_,_,_,_,h,_,_=>by cases h
 | a :: r,0,t,t',j,u,h,hj,e=>by
  cases h
  rw [List.set_cons_zero,List.flatMap_cons,List.flatMap_cons,e,Nat.zero_mul,Nat.zero_add,List.set_append_left _ _ (by rw [hf];exact hj)]
 | a :: r,i + 1,t,t',j,u,h,hj,e=>by
  have ih:=flat_set f z hf r i t t' j u h hj e
  rw [List.set_cons_succ,List.flatMap_cons,List.flatMap_cons,ih,List.set_append_right _ _ (by rw [hf,Nat.add_mul];omega),hf]
  congr 2
  rw [Nat.add_mul]
  omega
theorem own_get {W:World} {base:Nat} {e:TypeId} {size g n cap:Nat} {xs:List Value} (h:W.ownsRow base e size (.slice (some ⟨g,0,none⟩) n cap) n xs) {o:Nat} {u:Value} (ho:xs[o]? = some u):W.cell? ⟨g,o,none⟩ = some u ∧ W.frozen? ⟨g,o,none⟩ = false ∧ base ≤ g ∧ g < W.heap.size:=by
 have hc:=World.ownsRow.cells h (g:=g) rfl o _ ho
 have ea:(⟨g,0,none⟩:Addr).add o = ⟨g,o,none⟩:=by unfold Addr.add;split <;> simp_all
 rw [ea] at hc
 refine ⟨hc,?_,ownLt h rfl⟩
 rcases h.2 with ⟨e1,_⟩ | ⟨g',cap',cur,e1,hb,hg,hn,hm,hs,hx⟩
 ·cases e1
 ·cases e1
  simp only [World.frozen?,hg]
  simp
theorem own_put {W:World} {base:Nat} {e:TypeId} {size g n cap:Nat} {xs:List Value} (h:W.ownsRow base e size (.slice (some ⟨g,0,none⟩) n cap) n xs) (o:Nat) (u:Value):(W.setCell ⟨g,o,none⟩ u).ownsRow base e size (.slice (some ⟨g,0,none⟩) n cap) n (xs.set o u):=by
 rcases h.2 with ⟨e1,_⟩ | ⟨g',cap',cur,e1,hb,hg,hn,hm,hs,hx⟩
 ·cases e1
 ·cases e1
  refine ⟨by rw [List.length_set];exact h.1,.inr ⟨g,cap,cur.setIfInBounds o u,rfl,hb,?_,hn,hm,by simpa using hs,?_⟩⟩
  ·have e:(W.setCell ⟨g,o,none⟩ u).heap = W.heap.modify g (fun x=>match x with
    | .cells cs t f=>.cells (cs.setIfInBounds o u) t f
    | x=>x):=rfl
   rw [e,Array.getElem?_modify,if_pos rfl,hg]
   rfl
  ·rw [← hx,Array.toList_setIfInBounds,List.take_set]
theorem own_shape {W:World} {base:Nat} {e:TypeId} {size n:Nat} {v:Value} {xs:List Value} (h:W.ownsRow base e size v n xs) (hn:0 < n):∃ g cap,v = .slice (some ⟨g,0,none⟩) n cap:=by
 rcases h.2 with ⟨_,h0⟩ | ⟨g,cap,cur,e1,_⟩
 ·omega
 ·exact ⟨g,cap,e1⟩
theorem own_sl {W:World} {base:Nat} {e:TypeId} {size n:Nat} {v:Value} {xs:List Value} (h:W.ownsRow base e size v n xs):∃ p cap,v = .slice p n cap:=by
 rcases h.2 with ⟨rfl,rfl⟩ | ⟨g,cap,cur,rfl,_⟩
 ·exact ⟨none,0,rfl⟩
 ·exact ⟨_,cap,rfl⟩
theorem own_front {W:World} {base:Nat} {e:TypeId} {size g n m cap:Nat} {xs:List Value} (h:W.ownsRow base e size (.slice (some ⟨g,0,none⟩) n cap) n xs) (hm:m ≤ n):W.ownsRow base e size (.slice (some ⟨g,0,none⟩) m cap) m (xs.take (m * size)):=by
 rcases h.2 with ⟨e1,_⟩ | ⟨g',cap',cur,e1,hb,hg,hn,hc,hs,hx⟩
 ·cases e1
 ·cases e1
  have hmn:m * size ≤ n * size:=Nat.mul_le_mul_right _ hm
  refine ⟨by rw [List.length_take,h.1];omega,.inr ⟨g,cap,cur,rfl,hb,hg,by omega,hc,hs,?_⟩⟩
  rw [← hx,List.take_take]
  congr 1
  omega
theorem PF.put {W:World} {bot:Nat} {f:Nat → Rw} (h:PF W bot f) (c:Nat) {g n cap o:Nat} (hv:(f c).v = .slice (some ⟨g,0,none⟩) n cap) (hn:(f c).n = n) (u:Value):PF (W.setCell ⟨g,o,none⟩ u) bot (upF f c ⟨(f c).ty,(f c).sz,.slice (some ⟨g,0,none⟩) n cap,n,(f c).xs.set o u⟩):=by
 have hO:=h.own c
 unfold Rw.own at hO
 rw [hv,hn] at hO
 refine h.upd c (own_put hO o u) (fun k hk=>.inl (by rw [hv];exact hk)) (fun k _ _ hne=>Below.heap_setCell _ _ _ _ (fun e=>hne (by rw [hv,e];rfl)))
open Go.Lib
structure PSt where
 op:List Nat
 es:List El
def hasA (l:List Att) (nm:ByteArray):Bool:=l.any fun a=>decide (a.nm = nm)
def takeT (bl:ByteArray → Bool) (s:PSt) (t:Tok):Except Nat PSt :=
 if t.k = 0 then
  (if s.op = [] ∧ s.es ≠ [] then .error 53 else if s.op.length = 16 then .error 50 else if s.es.length = 20000 then .error 54
   else .ok ⟨s.op ++ [s.es.length],s.es ++ [⟨(s.op.length:Int) + 1,t.nm,[],⟨#[]⟩,(t.p:Int)⟩]⟩)
 else if t.k = 1 then
  (match s.op.getLast? with
   | none=>.ok s
   | some i=>match s.es[i]? with
    | none=>.ok s
    | some e=>if hasA e.ats t.nm then .error 52 else if e.ats.length = 24 then .error 54 else .ok ⟨s.op,s.es.set i { e with ats:=e.ats ++ [⟨t.nm,t.vl,(t.p:Int)⟩] }⟩)
 else if t.k = 3 then .ok ⟨s.op.dropLast,s.es⟩
 else if t.k = 4 then
  (match s.op.getLast? with
   | none=>.error 51
   | some i=>match s.es[i]? with
    | none=>.error 51
    | some e=>if e.nm = t.nm then .ok ⟨s.op.dropLast,s.es⟩ else .error 51)
 else if t.k = 5 then
  (match s.op.getLast? with
   | none=>if bl t.vl then .ok s else .error 53
   | some i=>match s.es[i]? with
    | none=>.ok s
    | some e=>.ok ⟨s.op,s.es.set i { e with tx:=e.tx ++ t.vl }⟩)
 else .ok s
def takeL (bl:ByteArray → Bool):List Tok → PSt → Except (Nat × Nat) PSt
 | [],s=>.ok s
 | t :: r,s=>match takeT bl s t with
  | .error e=>.error (e,t.p)
  | .ok s'=>takeL bl r s'
structure POk (s:PSt):Prop where
 lt:∀ i ∈ s.op,i < s.es.length
 up:s.op.Pairwise (· < ·)
 ol:s.op.length ≤ 16
 el:s.es.length ≤ 20000
 al:∀ e ∈ s.es,e.ats.length ≤ 24
 ne:s.op ≠ [] → s.es ≠ []
theorem POk.nil:POk ⟨[],[]⟩:=⟨fun _ h=>(by cases h),List.Pairwise.nil,by decide,by decide,fun _ h=>(by cases h),fun h=>absurd rfl h⟩
theorem set_len {α:Type} (l:List α) (i:Nat) (x:α):(l.set i x).length = l.length:=List.length_set
theorem takeT_ok {bl:ByteArray → Bool} {s s':PSt} {t:Tok} (h:takeT bl s t = .ok s') (hs:POk s):POk s':=by
 unfold takeT at h
 split at h
 ·split at h
  ·cases h
  ·split at h
   ·cases h
   ·split at h
    ·cases h
    ·cases h
     rename_i h1 h2 h3
     have ho:=hs.ol
     have he:=hs.el
     refine ⟨fun i hi=>?_,?_,?_,?_,fun e he'=>?_,fun _=>by simp⟩
     ·rw [List.length_append,List.length_singleton]
      rcases List.mem_append.1 hi with hi | hi
      ·have:=hs.lt i hi;omega
      ·rw [List.mem_singleton] at hi;omega
     ·refine List.pairwise_append.2 ⟨hs.up,List.pairwise_singleton _ _,fun a ha b hb=>?_⟩
      rw [List.mem_singleton] at hb
      subst hb
      exact hs.lt a ha
     ·rw [List.length_append,List.length_singleton];omega
     ·rw [List.length_append,List.length_singleton];omega
     ·rcases List.mem_append.1 he' with h | h
      ·exact hs.al e h
      ·rw [List.mem_singleton] at h;subst h;exact Nat.zero_le _
 ·split at h
  ·split at h
   ·cases h;exact hs
   ·rename_i i hi
    split at h
    ·cases h;exact hs
    ·rename_i e he
     split at h
     ·cases h
     ·split at h
      ·cases h
      ·cases h
       rename_i h5
       have ha:=hs.al e (List.mem_of_getElem? he)
       refine ⟨fun j hj=>by rw [set_len];exact hs.lt j hj,hs.up,hs.ol,by rw [set_len];exact hs.el,fun x hx=>?_,fun hn=>?_⟩
       ·rcases List.mem_or_eq_of_mem_set hx with h | h
        ·exact hs.al x h
        ·subst h;show (e.ats ++ _).length ≤ 24;rw [List.length_append,List.length_singleton];omega
       ·have:=hs.ne hn
        intro h0
        exact this (List.eq_nil_of_length_eq_zero (by rw [← set_len s.es i];exact congrArg List.length h0))
  ·split at h
   ·cases h
    exact ⟨fun i hi=>hs.lt i (List.dropLast_subset _ hi),hs.up.sublist (List.dropLast_sublist _),by rw [List.length_dropLast];have:=hs.ol;omega,hs.el,hs.al,fun hn=>hs.ne (fun e=>hn (by rw [e];rfl))⟩
   ·split at h
    ·split at h
     ·cases h
     ·split at h
      ·cases h
      ·split at h
       ·cases h
        exact ⟨fun i hi=>hs.lt i (List.dropLast_subset _ hi),hs.up.sublist (List.dropLast_sublist _),by rw [List.length_dropLast];have:=hs.ol;omega,hs.el,hs.al,fun hn=>hs.ne (fun e=>hn (by rw [e];rfl))⟩
       ·cases h
    ·split at h
     ·split at h
      ·split at h
       ·cases h;exact hs
       ·cases h
      ·rename_i i hi
       split at h
       ·cases h;exact hs
       ·rename_i e he
        cases h
        refine ⟨fun j hj=>by rw [set_len];exact hs.lt j hj,hs.up,hs.ol,by rw [set_len];exact hs.el,fun x hx=>?_,fun hn=>?_⟩
        ·rcases List.mem_or_eq_of_mem_set hx with h | h
         ·exact hs.al x h
         ·subst h;exact hs.al e (List.mem_of_getElem? he)
        ·have:=hs.ne hn
         intro h0
         exact this (List.eq_nil_of_length_eq_zero (by rw [← set_len s.es i];exact congrArg List.length h0))
     ·cases h;exact hs
def hideE (op:List Nat) (i:Nat) (e:El):El:=if i ∈ op then { e with tx:=⟨#[]⟩ } else e
def hide (op:List Nat) (es:List El):List El:=es.mapIdx (hideE op)
theorem hide_length (op:List Nat) (es:List El):(hide op es).length = es.length:=by simp [hide]
theorem hide_nil (es:List El):hide [] es = es:=by
 unfold hide
 apply List.ext_getElem?
 intro i
 rw [List.getElem?_mapIdx]
 cases es[i]? <;> simp [hideE]
theorem hide_get {op:List Nat} {es:List El} {i:Nat} {e:El} (h:es[i]? = some e):(hide op es)[i]? = some (hideE op i e):=by
 unfold hide
 rw [List.getElem?_mapIdx,h];rfl
theorem hide_push (op:List Nat) (es:List El) (x:El) (hx:x.tx = ⟨#[]⟩):hide (op ++ [es.length]) (es ++ [x]) = hide op es ++ [x]:=by
 apply List.ext_getElem?
 intro i
 unfold hide
 rw [List.getElem?_mapIdx]
 by_cases hi:i < es.length
 ·rw [List.getElem?_append_left hi,List.getElem?_append_left (by simpa using hi),List.getElem?_mapIdx]
  congr 1
  funext e
  unfold hideE
  have:(i ∈ op ++ [es.length]) ↔ i ∈ op:=by simp;omega
  simp only [this]
 ·by_cases he:i = es.length
  ·subst he
   simp [hideE,← hx]
  ·rw [List.getElem?_eq_none (by simp;omega),List.getElem?_eq_none (by simp;omega)];rfl
theorem hide_att (op:List Nat) (es:List El) (i:Nat) (e:El) (h:es[i]? = some e) (l:List Att):hide op (es.set i { e with ats:=l }) = (hide op es).set i { hideE op i e with ats:=l }:=by
 apply List.ext_getElem?
 intro j
 unfold hide
 rw [List.getElem?_mapIdx]
 by_cases hj:j = i
 ·subst hj
  have hl:=(List.getElem?_eq_some_iff.1 h).1
  rw [List.getElem?_set_self hl,List.getElem?_set_self (by simpa using hl)]
  simp only [Option.map_some,hideE]
  split <;> rfl
 ·rw [List.getElem?_set_ne (fun e=>hj e.symm),List.getElem?_set_ne (fun e=>hj e.symm),List.getElem?_mapIdx]
theorem hide_txt (op:List Nat) (es:List El) (i:Nat) (e:El) (h:es[i]? = some e) (hi:i ∈ op) (x:ByteArray):hide op (es.set i { e with tx:=x }) = hide op es:=by
 apply List.ext_getElem?
 intro j
 unfold hide
 rw [List.getElem?_mapIdx,List.getElem?_mapIdx]
 by_cases hj:j = i
 ·subst hj
  have hl:=(List.getElem?_eq_some_iff.1 h).1
  rw [List.getElem?_set_self hl,h]
  simp only [Option.map_some,hideE,if_pos hi]
 ·rw [List.getElem?_set_ne (fun e=>hj e.symm)]
theorem last_split {op:List Nat} {i:Nat} (h:op.getLast? = some i):op = op.dropLast ++ [i]:=by
 obtain ⟨ys,rfl⟩:=List.getLast?_eq_some_iff.1 h
 simp
theorem hide_shut {op:List Nat} {es:List El} {i:Nat} {e:El} (hi:op.getLast? = some i) (h:es[i]? = some e) (hup:op.Pairwise (· < ·)):hide op.dropLast es = (hide op es).set i e:=by
 have hsp:=last_split hi
 have hni:i ∉ op.dropLast:=by
  rw [hsp] at hup
  intro hm
  have:=(List.pairwise_append.1 hup).2.2 i hm i (List.mem_singleton.2 rfl)
  omega
 have hmem:∀ j,j ≠ i → (j ∈ op ↔ j ∈ op.dropLast):=by
  intro j hj
  conv=>lhs;rw [hsp]
  rw [List.mem_append,List.mem_singleton]
  exact ⟨fun h=>h.resolve_right hj,.inl⟩
 apply List.ext_getElem?
 intro j
 unfold hide
 rw [List.getElem?_mapIdx]
 by_cases hj:j = i
 ·subst hj
  have hl:=(List.getElem?_eq_some_iff.1 h).1
  rw [List.getElem?_set_self (by simpa using hl),h]
  simp only [Option.map_some,hideE,if_neg hni]
 ·rw [List.getElem?_set_ne (fun e=>hj e.symm),List.getElem?_mapIdx]
  congr 1
  funext x
  unfold hideE
  simp only [hmem j hj]
def tg:Option Nat → Bool
 | none=>false
 | some f=>decide (f = 153 ∨ f = 170 ∨ f = 171 ∨ f = 172)
def SeqT:Bool → List Tok → Prop
 | _,[]=>True
 | b,t :: r=>((t.k = 1 ∨ t.k = 3) → b = true) ∧ t.k < 8 ∧ SeqT (decide (t.k = 0 ∨ t.k = 1)) r
def StK (f:Nat):Sz → Prop
 | .bad _ _=>True
 | .go nx _ none=>tg nx = true → tg (some f) = true
 | .go nx _ (some t)=>((t.k = 1 ∨ t.k = 3) → tg (some f) = true) ∧ t.k < 8 ∧ (tg nx = true → t.k = 0 ∨ t.k = 1)
theorem step_k (s:ByteArray) (f a:Nat) (hok:stOk s f a):StK f (stepZ s f a):=by
 rcases hok with ⟨rfl,rfl,hs⟩ | ⟨hs,⟨rfl,rfl⟩ | ⟨rfl,ha⟩ | ⟨rfl,ha,hc⟩ | ⟨rfl,ha⟩ | ⟨rfl,ha⟩ | ⟨rfl,ha⟩ | ⟨rfl,ha⟩ | ⟨rfl,ha⟩ | ⟨rfl,ha⟩ | ⟨rfl,ha⟩⟩
 ·rw [stepZ_begin];unfold beginZ;repeat' split
  all_goals first | trivial | (intro h;revert h;decide)
 ·rw [stepZ_declaration];unfold declZ;repeat' split
  all_goals first | trivial | exact ⟨fun h=>absurd h (by dsimp only;decide),by dsimp only;decide,fun h=>absurd h (by decide)⟩
 ·rw [stepZ_content];unfold contentZ;repeat' split
  all_goals first | trivial | (intro h;revert h;decide)
 ·rw [stepZ_text];unfold textZ;repeat' split
  all_goals first | trivial | exact ⟨fun h=>absurd h (by dsimp only;decide),by dsimp only;decide,fun h=>absurd h (by decide)⟩
 ·rw [stepZ_comment];unfold commentZ;repeat' split
  all_goals first | trivial | exact ⟨fun h=>absurd h (by dsimp only;decide),by dsimp only;decide,fun h=>absurd h (by decide)⟩
 ·rw [stepZ_endTag];unfold endZ;repeat' split
  all_goals first | trivial | exact ⟨fun h=>absurd h (by dsimp only;decide),by dsimp only;decide,fun h=>absurd h (by decide)⟩
 ·rw [stepZ_startTag];unfold startZ;repeat' split
  all_goals first | trivial | exact ⟨fun h=>absurd h (by dsimp only;decide),by dsimp only;decide,fun _=>.inl rfl⟩
 ·rw [stepZ_inTag];unfold inTagZ;repeat' split
  all_goals first | trivial | (intro _;decide)
 ·rw [stepZ_tagEnd];exact ⟨fun _=>by decide,by dsimp only;decide,fun h=>absurd h (by decide)⟩
 ·rw [stepZ_emptyEnd];unfold emptyEndZ;repeat' split
  all_goals first | trivial | exact ⟨fun _=>by decide,by dsimp only;decide,fun h=>absurd h (by decide)⟩
 ·rw [stepZ_attribute];unfold attrZ;repeat' split
  all_goals first | trivial | exact ⟨fun _=>by decide,by dsimp only;decide,fun _=>.inr rfl⟩
theorem runZ_k {s:ByteArray}:∀ {n:Nat} {f:Option Nat} {a:Nat} {nx:Option Nat} {b:Nat} {t:Tok},okO s a f → runZ s n f a = .told nx b t → ((t.k = 1 ∨ t.k = 3) → tg f = true) ∧ t.k < 8 ∧ (tg nx = true → t.k = 0 ∨ t.k = 1)
 | n,none,a,nx,b,t,_,h=>by cases n <;> cases h
 | 0,some f,a,nx,b,t,_,h=>by cases h
 | n + 1,some f,a,nx,b,t,hok,h=>by
  have hgo:=step_go s f a hok
  have hk:=step_k s f a hok
  simp only [runZ] at h
  cases hz:stepZ s f a with
  | bad e p=>rw [hz] at h;cases h
  | go nx' b' ot =>
   rw [hz] at h hgo hk
   cases ot with
   | some t' =>
    dsimp only at h
    injection h with h1 h2 h3
    subst h1 h2 h3
    exact hk
   | none =>
    dsimp only at h
    cases nx' with
    | none=>cases n <;> cases h
    | some g =>
     have:=runZ_k (n:=n) (f:=some g) hgo.1 h
     exact ⟨fun h=>hk (this.1 h),this.2⟩
theorem toksF_seq (s:ByteArray):∀ (n:Nat) (f:Option Nat) (a:Nat) (b:Bool),okO s a f → (tg f = true → b = true) → SeqT b (toksF s n f a).1
 | 0,_,_,_,_,_=>trivial
 | n + 1,f,a,b,hok,hb=>by
  simp only [toksF]
  cases hz:pieceZ s f a with
  | bad e p=>trivial
  | end_ c=>trivial
  | told nx c t =>
   have h1:=piece_told hok hz
   have h2:=runZ_k hok hz
   exact ⟨fun h=>hb (h2.1 h),h2.2.1,toksF_seq s n nx c _ h1.2.2 fun h=>decide_eq_true (h2.2.2 h)⟩
theorem toksN_seq (s:ByteArray) (hs:s.size ≤ 9223372036854775807):SeqT false (toksN s).1:=toksF_seq s _ _ _ _ (.inl ⟨rfl,rfl,hs⟩) (by decide)
structure R7 (w:World) (R:Nat) (v:Nat → Value):Prop where
 c:∀ o,o < 7 → w.cell? ⟨R,o,none⟩ = some (v o)
 fz:∀ o,w.frozen? ⟨R,o,none⟩ = false
 lt:R < w.heap.size
def up7 (v:Nat → Value) (i:Nat) (u:Value):Nat → Value:=fun j=>if j = i then u else v j
theorem R7.same {w w':World} {R:Nat} {v:Nat → Value} (h:R7 w R v) (hb:w'.heap[R]? = w.heap[R]?) (hs:w.heap.size ≤ w'.heap.size):R7 w' R v :=
 ⟨fun o ho=>by rw [← h.c o ho];simp only [World.cell?,hb],fun o=>by rw [← h.fz o];simp only [World.frozen?,hb],Nat.lt_of_lt_of_le h.lt hs⟩
theorem R7.below {w w':World} {R:Nat} {v:Nat → Value} (h:R7 w R v) (hb:Below w.heap.size w w'):R7 w' R v:=h.same (hb.block R h.lt) hb.size
theorem R7.set {w:World} {R:Nat} {v:Nat → Value} (h:R7 w R v) (i:Nat) (u:Value):R7 (w.setCell ⟨R,i,none⟩ u) R (up7 v i u):=by
 refine ⟨fun o ho=>?_,fun o=>by rw [World.frozen?_setCell];exact h.fz o,by simpa [World.setCell] using h.lt⟩
 unfold up7
 by_cases hi:o = i
 ·subst hi
  rw [if_pos rfl]
  exact World.cell?_setCell_same w ⟨R,o,none⟩ _ (h.c o ho)
 ·rw [if_neg hi]
  exact (World.cell?_setCell_other w _ _ _ (fun e=>hi (by injection e with _ e2;exact e2.symm))).trans (h.c o ho)
theorem R7.drewN {w:World} {R:Nat} {v:Nat → Value} (h:R7 w R v) (n:Nat):R7 (w.drewN n) R v:=⟨h.c,h.fz,h.lt⟩
structure Kr (R B:Nat) (w w':World):Prop where
 os:w'.os = w.os
 tape:w'.tape = w.tape
 output:w'.output = w.output
 size:w.heap.size ≤ w'.heap.size
 block:∀ k,k < B → k ≠ R → w'.heap[k]? = w.heap[k]?
theorem Kr.refl (R B:Nat) (w:World):Kr R B w w:=⟨rfl,rfl,rfl,Nat.le_refl _,fun _ _ _=>rfl⟩
theorem Kr.trans {R B:Nat} {a b c:World} (h:Kr R B a b) (k:Kr R B b c):Kr R B a c :=
 ⟨k.os.trans h.os,k.tape.trans h.tape,k.output.trans h.output,Nat.le_trans h.size k.size,fun i hi hn=>(k.block i hi hn).trans (h.block i hi hn)⟩
theorem Kr.of {R B:Nat} {w w':World} (h:Below B w w'):Kr R B w w':=⟨h.os,h.tape,h.output,h.size,fun k hk _=>h.block k hk⟩
theorem Kr.set (R B o:Nat) (w:World) (u:Value):Kr R B w (w.setCell ⟨R,o,none⟩ u):=⟨rfl,rfl,rfl,by simp [World.setCell],fun k _ hk=>Below.heap_setCell _ _ _ _ hk⟩
theorem Kr.drewN {R B:Nat} {w w':World} (h:Kr R B w w') (n:Nat):Kr R B w (w'.drewN n):=⟨h.os,h.tape,h.output,h.size,h.block⟩
theorem Kr.far {R B g o:Nat} {w:World} (u:Value) (h:B ≤ g):Kr R B w (w.setCell ⟨g,o,none⟩ u):=⟨rfl,rfl,rfl,by simp [World.setCell],fun k hk _=>Below.heap_setCell _ _ _ _ (show k ≠ g by omega)⟩
theorem refused_any (R:Nat) (v:Nat → Value) (er:Nat) (w:World) (h:R7 w R v) (h4:v 4 = .int .i64 (er:Int)) :
  Calls Tryz.prog 28 #[.pointer (some ⟨R,0,none⟩)] w fun e w'=>e = .returned (.bool (decide (er ≠ 0))) ∧ ∃ n,w' = w.drewN n:=by
 have e4:=h.c 4 (by decide)
 rw [h4] at e4
 by_cases h0:er = 0
 ·subst h0
  go_enter Tryz.func28,Tryz.ntmps28
  go_wp2_with fail
  go_ret
  exact ⟨rfl,0,rfl⟩
 ·have z:((er:Int) == 0) = false:=beq_eq_false_iff_ne.2 (by omega)
  have z2:((er:Int) != 0) = true:=by rw [bne,z];rfl
  go_enter Tryz.func28,Tryz.ntmps28
  go_wp2_with fail
  go_ret
  exact ⟨by simp [h0],0,rfl⟩
theorem refuse_any (R:Nat) (v:Nat → Value) (er:Int) (w:World) (h:R7 w R v) :
  Calls Tryz.prog 51 #[.pointer (some ⟨R,0,none⟩),.int .i64 er] w fun e w'=>e = .returned (.tuple #[]) ∧ w' = w.setCell ⟨R,4,none⟩ (.int .i64 er):=by
 have e4:=h.c 4 (by decide)
 have f4:=h.fz 4
 go_enter Tryz.func51,Tryz.ntmps51
 go_wp2_with fail
 go_end0
 exact ⟨rfl,rfl⟩
theorem depth_any (R:Nat) (v:Nat → Value) (p:Option Addr) (n c:Nat) (w:World) (h:R7 w R v) (h5:v 5 = .slice p n c) :
  Calls Tryz.prog 68 #[.pointer (some ⟨R,0,none⟩)] w fun e w'=>e = .returned (.int .i64 (n:Int)) ∧ ∃ n,w' = w.drewN n:=by
 have e5:=h.c 5 (by decide)
 rw [h5] at e5
 go_enter Tryz.func68,Tryz.ntmps68
 go_wp2_with fail
 go_ret
 exact ⟨rfl,0,rfl⟩
def pcV (k:Int) (nm vl:ByteArray) (p:Int) (v:Nat → Value):Nat → Value:=up7 (up7 (up7 (up7 v 0 (.int .i64 k)) 1 (.string nm)) 2 (.string vl)) 3 (.int .i64 p)
theorem moveTo_any (R B:Nat) (v:Nat → Value) (k p:Int) (nm vl:ByteArray) (w:World) (h:R7 w R v) (hB:B ≤ w.heap.size) :
  Calls Tryz.prog 49 #[.pointer (some ⟨R,0,none⟩),.agg #[.int .i64 k,.string nm,.string vl,.int .i64 p]] w fun e w'=>e = .returned (.tuple #[]) ∧ Kr R B w w' ∧ R7 w' R (pcV k nm vl p v) ∧ ∀ j,j < w.heap.size → j ≠ R → w'.heap[j]? = w.heap[j]?:=by
 have hb:=bel1 w (.cells #[.int .i64 k,.string nm,.string vl,.int .i64 p] 67)
 have h0:=h.below hb
 have h3:=h0.set 0 (.int .i64 k)
 have h4:=h3.set 1 (.string nm)
 have h5:=h4.set 2 (.string vl)
 have h6:=h5.set 3 (.int .i64 p)
 have H7:Hid (R7 _ R (pcV k nm vl p v)):=h6
 have HB:Hid (Kr R w.heap.size w _):=(Kr.of hb).trans (((Kr.set R _ 0 _ (.int .i64 k)).trans (Kr.set R _ 1 _ (.string nm))).trans ((Kr.set R _ 2 _ (.string vl)).trans (Kr.set R _ 3 _ (.int .i64 p))))
 have a3:=h0.c 0 (by decide)
 have b3:=h0.fz 0
 have a4:=h3.c 1 (by decide)
 have b4:=h3.fz 1
 have a5:=h4.c 2 (by decide)
 have b5:=h4.fz 2
 have a6:=h5.c 3 (by decide)
 have b6:=h5.fz 3
 clear h6 h5 h4 h3 h0 hb h
 go_enter Tryz.func49,Tryz.ntmps49
 go_wp2_with fail
 go_end0
 exact ⟨rfl,⟨HB.out.os,HB.out.tape,HB.out.output,HB.out.size,fun k hk hn=>HB.out.block k (by omega) hn⟩,H7.out,HB.out.block⟩
theorem innermost_any (R:Nat) (v:Nat → Value) (g n c:Nat) (w:World) (h:R7 w R v) (h5:v 5 = .slice (some ⟨g,0,none⟩) (n + 1) c) (hn:n ≤ 16) :
  Calls Tryz.prog 70 #[.pointer (some ⟨R,0,none⟩)] w fun e w'=>e = .returned (.pointer (some ⟨g,n * 3,none⟩)) ∧ ∃ n,w' = w.drewN n:=by
 have e5:=h.c 5 (by decide)
 rw [h5] at e5
 have hn0:(n:Int) < n + 1:=by omega
 have hw:IntKind.i64.wrap (n:Int) = n:=by rw [IntKind.wrap_i64];omega
 have hw2:IntKind.i64.wrap ((n:Int) + 1 - 1) = n:=by rw [IntKind.wrap_i64];omega
 clear h h5
 go_enter Tryz.func70,Tryz.ntmps70
 go_wp2_with fail
 go_quiet (fail)
 go_wp2_with fail
 go_ret
 exact ⟨rfl,_,rfl⟩
theorem pass_any (a:Value) (w:World) :
  Calls Tryz.prog 45 #[a] w fun e w'=>e = .returned (.tuple #[]) ∧ w' = w:=by
 go_enter Tryz.func45,Tryz.ntmps45
 go_wp2_with fail
 go_end0
 exact ⟨rfl,rfl⟩
theorem tSetCells_other {b k:Nat} (h:k = b → False):∀ (vs:List Value) (o:Nat) (w:World),(w.setCells b o vs).heap[k]? = w.heap[k]?
 | [],_,_=>rfl
 | _ :: r,o,w=>(tSetCells_other h r (o + 1) _).trans (Below.heap_setCell w _ _ _ (fun e=>h e))
theorem tbufAppend {w:World} {B:Nat} {v:Value} {L:List Nat} (h:Buf w B v L) {tx:TypeId} {x:Value} {M:List Nat} (S:Src Tryz.prog 1 tx x M.length (M.map cU) w) (hl:L.length + M.length ≤ 140737488355328) (hB:B ≤ w.heap.size) :
  ∃ v' w',(∀ ty,(Builtin.append_ #[59,tx] ty #[v,x]).run Tryz.prog w = .ok v' w') ∧ (Buf w' B v' (L ++ M) ∧ Below B w w' ∧ (∀ k,k < w.heap.size → v.ownBlock ≠ some k → w'.heap[k]? = w.heap[k]?) ∧ ∀ k,v'.ownBlock = some k → v.ownBlock = some k ∨ w.heap.size ≤ k):=by
 obtain ⟨i,hi,hz,hsz,hby⟩:=info5
 have S':Src Tryz.prog i.size tx x M.length (M.map cU) w:=by rw [hsz];exact S
 have hlen:(L ++ M).map cU = L.map cU ++ M.map cU:=List.map_append
 have grow:∀ (base:Option Addr) (sCap:Nat),v = .slice base L.length sCap → sCap < L.length + M.length →
   (Builtin.firstCells i.size L.length (.slice base L.length sCap)).run Tryz.prog w.drew = .ok (L.map cU).toArray w.drew →
   ∃ v' w',(∀ ty,(Builtin.append_ #[59,tx] ty #[v,x]).run Tryz.prog w = .ok v' w') ∧ (Buf w' B v' (L ++ M) ∧ Below B w w' ∧ (∀ k,k < w.heap.size → v.ownBlock ≠ some k → w'.heap[k]? = w.heap[k]?) ∧ ∀ k,v'.ownBlock = some k → v.ownBlock = some k ∨ w.heap.size ≤ k):=by
  rintro base sCap rfl hlt hold
  have hfit:Builtin.nextslicecap (L.length + M.length) sCap * i.bytes ≤ 281474976710656:=by
   have:=growslice_fits (bytes:=1) hlt (by omega)
   rw [hby];exact this
  have ge:=grownCap_ge w (L.length + M.length) sCap 5
  have le:=grownCap_le_maxLen w (L.length + M.length) sCap 5 (by unfold maxLen;omega)
  refine ⟨_,_,fun ty=>run_append_grow_src w 59 tx ty 5 i (.int .u8 0) Tryz.underlying59 hi hz base L.length sCap _ hold x M.length _ S' hlt (by omega) hfit,⟨?_,?_⟩,(Below.refl _ _).drew.alloc hB _,fun k hk _=>Below.heap_alloc w.drew _ k hk,fun k hk=>by cases hk;exact .inr (Nat.le_refl _)⟩
  ·rw [List.length_map,List.length_append,Nat.mul_one]
  ·refine .inr ⟨w.heap.size,_,_,by rw [List.length_append],hB,heap_alloc_new w.drew _,by rw [List.length_append];exact ge,le,?_,?_⟩
   ·simp only [Array.size_append,List.size_toArray,size_zeroCells]
    rw [List.length_append,List.length_map,List.length_map,show (Value.int .u8 0).cells.size = 1 from rfl]
    omega
   ·rw [Nat.mul_one,Array.toList_append,List.take_append_of_le_length (by simp),hlen,List.take_of_length_le (by simp)]
 rcases h.2 with ⟨rfl,h0⟩ | ⟨g,cap,cur,rfl,hb,hg,hn,hm,hs,ht⟩
 ·obtain rfl:L = []:=List.length_eq_zero_iff.1 h0
  by_cases hM:M.length = 0
  ·obtain rfl:M = []:=List.length_eq_zero_iff.1 hM
   refine ⟨.slice none 0 0,w,fun ty=>?_,h,Below.refl _ _,fun _ _ _=>rfl,fun k hk=>.inl hk⟩
   have hln:∀ w':World,(Builtin.lenOf x).run Tryz.prog w' = .ok 0 w':=S'.len
   have hcl:(Builtin.firstCells i.size 0 x).run Tryz.prog w = .ok #[] w:=S'.cells
   rcases S'.kind with ⟨e',hk⟩ | hk <;>
    simp [Builtin.append_,run_underlying Tryz.underlying59,run_underlying hk,sizeOf,typeInfo,hi,hln,hcl]
  ·exact grow none 0 rfl (by simp;omega) (by simpa using run_firstCells_none w.drew i.size 0 0 0)
 ·by_cases hroom:L.length + M.length ≤ cap
  ·have hcs:cur.size = cap:=by rw [hs,Nat.mul_one]
   refine ⟨_,_,fun ty=>run_append_room_src w 59 tx ty 5 i Tryz.underlying59 hi g 0 L.length cap x M.length _ S' hroom (fun j hj=>?_) (fun j hj=>?_),⟨?_,?_⟩,?_,fun k hk hne=>tSetCells_other (fun e=>hne (by rw [e];rfl)) _ _ _,fun k hk=>.inl hk⟩
   ·rw [hsz,Nat.zero_add,Nat.mul_one,cell_of_row w g _ cur _ (0,0) hg]
    rw [List.length_map] at hj
    have:L.length + j < cur.size:=by omega
    simp [this]
   ·unfold World.frozen?
    simp [hg]
   ·rw [List.length_map,List.length_append,Nat.mul_one]
   ·rw [hsz,Nat.zero_add,Nat.mul_one]
    have R:w.rowIs g 5 cap (fun j=>cur.toList.getD j (.int .u8 0)):=⟨cur,hg,hcs,fun j hj=>by
     have:j < cur.size:=by omega
     simp [List.getD,this]⟩
    obtain ⟨cur',h1,h2,h3⟩:=rowIs_setCells (M.map cU) L.length _ _ R
    refine .inr ⟨g,cap,cur',by rw [List.length_append],hb,h1,by rw [List.length_append];exact hroom,hm,by rw [h2,Nat.mul_one],?_⟩
    rw [List.length_append,Nat.mul_one,hlen]
    rw [Nat.mul_one] at ht
    apply List.ext_getElem?
    intro j
    by_cases hj:j < L.length + M.length
    ·have hj2:j < cap:=by omega
     have hj3:=h3 j hj2
     rw [List.getElem?_take_of_lt hj,Array.getElem?_toList,hj3]
     dsimp only
     by_cases hjl:j < L.length
     ·rw [if_neg (by omega),List.getElem?_append_left (by simpa using hjl),← ht,List.getElem?_take_of_lt hjl]
      have:j < cur.size:=by omega
      simp [List.getD,this]
     ·rw [if_pos ⟨by omega,by simpa using hj⟩,List.getElem?_append_right (by simpa using hjl),List.length_map]
      have:j - L.length < (M.map cU).length:=by simp;omega
      simp [List.getD,show j - L.length < M.length by omega]
    ·rw [List.getElem?_eq_none (by simp;omega),List.getElem?_eq_none (by simp;omega)]
   ·exact below_setCells hb _ _ _ (Below.refl _ _)
  ·refine grow (some ⟨g,0,none⟩) cap rfl (by omega) ?_
   refine run_firstCells_some w.drew i.size L.length ⟨g,0,none⟩ L.length cap _ (by rw [List.length_map,hsz,Nat.mul_one]) (fun j u hu=>?_)
   have:=World.ownsRow.cells h (g:=g) rfl j u hu
   simpa using this
theorem tbufStr {w:World} {B:Nat} {v:Value} {L:List Nat} (h:Buf w B v L) (t:ByteArray) (hl:L.length + t.size ≤ 140737488355328) (hB:B ≤ w.heap.size) :
  ∃ v' w',(∀ ty,(Builtin.append_ #[59,9] ty #[v,.string t]).run Tryz.prog w = .ok v' w') ∧ (Buf w' B v' (L ++ lOf t) ∧ Below B w w' ∧ (∀ k,k < w.heap.size → v.ownBlock ≠ some k → w'.heap[k]? = w.heap[k]?) ∧ ∀ k,v'.ownBlock = some k → v.ownBlock = some k ∨ w.heap.size ≤ k):=by
 have S:=Src.ofString (P:=Tryz.prog) (tx:=9) w Tryz.underlying9 t
 rw [byteCells_lOf,← lOf_length] at S
 exact tbufAppend h S (by rw [lOf_length];exact hl) hB
structure Opn where
 el:Nat
 nm:ByteArray
 tx:ByteArray
 tv:Value
structure Elx where
 e:El
 av:Value
def opC (o:Opn):List Value:=[.int .i64 (o.el:Int),.string o.nm,o.tv]
def elC (x:Elx):List Value:=[.int .i64 x.e.d,.string x.e.nm,x.av,.string x.e.tx,.int .i64 x.e.p]
def opR (v:Value) (sx:List Opn):Rw:=⟨122,3,v,sx.length,sx.flatMap opC⟩
def elR (v:Value) (ex:List Elx):Rw:=⟨32,5,v,ex.length,ex.flatMap elC⟩
def txR (o:Opn):Rw:=⟨5,1,o.tv,(lOf o.tx).length,(lOf o.tx).map cU⟩
def atR (x:Elx):Rw:=⟨54,3,x.av,x.e.ats.length,attCells x.e.ats⟩
structure TR (W:World) (bot:Nat) (vA vE:Value) (f:Nat → Rw) (sx:List Opn) (ex:List Elx):Prop where
 pf:PF W bot f
 f0:f 0 = opR vA sx
 f1:f 1 = elR vE ex
 ft:∀ j o,sx[j]? = some o → f (2 + 2 * j) = txR o
 fa:∀ i x,ex[i]? = some x → f (3 + 2 * i) = atR x
theorem TR.same {W W':World} {bot:Nat} {vA vE:Value} {f:Nat → Rw} {sx:List Opn} {ex:List Elx} (h:TR W bot vA vE f sx ex) (hb:∀ k,bot ≤ k → k < W.heap.size → W'.heap[k]? = W.heap[k]?):TR W' bot vA vE f sx ex :=
 ⟨h.pf.same hb,h.f0,h.f1,h.ft,h.fa⟩
theorem TR.keep {W W':World} {bot:Nat} {vA vE:Value} {f:Nat → Rw} {sx:List Opn} {ex:List Elx} (h:TR W bot vA vE f sx ex) (hb:Below W.heap.size W W'):TR W' bot vA vE f sx ex:=h.same fun k _ hk=>hb.block k hk
theorem TR.setR {W:World} {R bot o:Nat} {vA vE u:Value} {f:Nat → Rw} {sx:List Opn} {ex:List Elx} (h:TR W bot vA vE f sx ex) (hR:R < bot):TR (W.setCell ⟨R,o,none⟩ u) bot vA vE f sx ex:=h.same fun k hk _=>Below.heap_setCell _ _ _ _ (show k ≠ R by omega)
theorem TR.own0 {W:World} {bot:Nat} {vA vE:Value} {f:Nat → Rw} {sx:List Opn} {ex:List Elx} (h:TR W bot vA vE f sx ex):W.ownsRow bot 122 3 vA sx.length (sx.flatMap opC):=by
 have:=h.pf.own 0
 rw [h.f0] at this
 exact this
theorem TR.own1 {W:World} {bot:Nat} {vA vE:Value} {f:Nat → Rw} {sx:List Opn} {ex:List Elx} (h:TR W bot vA vE f sx ex):W.ownsRow bot 32 5 vE ex.length (ex.flatMap elC):=by
 have:=h.pf.own 1
 rw [h.f1] at this
 exact this
theorem TR.ownT {W:World} {bot:Nat} {vA vE:Value} {f:Nat → Rw} {sx:List Opn} {ex:List Elx} (h:TR W bot vA vE f sx ex) {j:Nat} {o:Opn} (hj:sx[j]? = some o):Buf W bot o.tv (lOf o.tx):=by
 have:=h.pf.own (2 + 2 * j)
 rw [h.ft j o hj] at this
 exact this
theorem TR.ownA {W:World} {bot:Nat} {vA vE:Value} {f:Nat → Rw} {sx:List Opn} {ex:List Elx} (h:TR W bot vA vE f sx ex) {i:Nat} {x:Elx} (hi:ex[i]? = some x):W.ownsRow bot 54 3 x.av x.e.ats.length (attCells x.e.ats):=by
 have:=h.pf.own (3 + 2 * i)
 rw [h.fa i x hi] at this
 exact this
theorem pf_app {W W1 W':World} {bot:Nat} {f:Nat → Rw} (h:PF W bot f) (hb:Below W.heap.size W W1) (c:Nat) {r:Rw} (hO:r.own W' bot) (hg:W1.grownBy W' (f c).v.ownBlock) (hv:r.v.ownBlock = (f c).v.ownBlock ∨ r.v.ownBlock = some W1.heap.size):PF W' bot (upF f c r) :=
 (h.keep hb).upd c hO (fun k hk=>by
  rcases hv with e | e
  ·exact .inl (e ▸ hk)
  ·rw [e] at hk;injection hk with hk;exact .inr (by omega)) (fun k _ hk hne=>hg.block k hk fun e=>hne e.symm)
theorem PF.nil {W:World} {bot:Nat} {f:Nat → Rw} (h:PF W bot f) (c:Nat) {r:Rw} (hv:r.v = .slice none 0 0) (hn:r.n = 0) (hx:r.xs = []):PF W bot (upF f c r) :=
 h.upd c (by unfold Rw.own;rw [hv,hn,hx];exact World.ownsRow_nil _ _ _ _) (fun k hk=>by rw [hv] at hk;cases hk) (fun _ _ _ _=>rfl)
theorem opC_len (o:Opn):(opC o).length = 3:=rfl
theorem elC_len (x:Elx):(elC x).length = 5:=rfl
abbrev zOpn:Value:=.agg #[.int .i64 0,.string ⟨#[]⟩,.slice none 0 0]
abbrev zElm:Value:=.agg #[.int .i64 0,.string ⟨#[]⟩,.slice none 0 0,.string ⟨#[]⟩,.int .i64 0]
abbrev zAtt:Value:=.agg #[.string ⟨#[]⟩,.string ⟨#[]⟩,.int .i64 0]
theorem infoOp:(Tryz.prog.info? 122).map (fun i=>(i.zero,i.size,i.bytes)) = some (some zOpn,3,48):=by kernel_rfl
theorem infoEl:(Tryz.prog.info? 32).map (fun i=>(i.zero,i.size,i.bytes)) = some (some zElm,5,72):=by kernel_rfl
theorem infoAt:(Tryz.prog.info? 54).map (fun i=>(i.zero,i.size,i.bytes)) = some (some zAtt,3,40):=by kernel_rfl
theorem ap1 {W:World} {base:Nat} {t e:TypeId} {z:Value} {size bytes n:Nat} {v:Value} {xs:List Value} (ht:Tryz.prog.underlying t = some (.slice e)) (hi:(Tryz.prog.info? e).map (fun i=>(i.zero,i.size,i.bytes)) = some (some z,size,bytes)) (hz:z.cells.size = size) (hsz:0 < size)
  (own:W.ownsRow base e size v n xs) {G:Nat} {cs:Array Value} {fr:Nat × Nat} (hG:W.heap[G]? = some (.cells cs e fr)) (hcs:cs.toList.length = size) (h1:∀ u ∈ cs.toList,u.oneCell' = true) (hn:n ≤ 1000000000) (hb:bytes ≤ 100) (hbase:base ≤ W.heap.size) :
  ∃ v' w',(∀ ty,(Builtin.append_ #[t,t] ty #[v,.slice (some ⟨G,0,none⟩) 1 1]).run Tryz.prog W = .ok v' w') ∧ w'.ownsRow base e size v' (n + 1) (xs ++ cs.toList) ∧ W.grownBy w' v.ownBlock ∧ (v'.ownBlock = v.ownBlock ∨ v'.ownBlock = some W.heap.size):=by
 obtain ⟨i0,hi0,hz0⟩:=Option.map_eq_some_iff.1 hi
 simp only [Prod.mk.injEq] at hz0
 have hr:=fun ty=>run_append_own_at (P:=Tryz.prog) W base t ty e i0 z size bytes ht hi0 hz0.1 hz0.2.1 hz0.2.2 hz hsz v n xs own ⟨G,0,none⟩ 1 1 cs.toList (by rw [hcs,Nat.one_mul]) (World.news_of_block hG) h1 (by simp only [maxLen];omega) (Nat.le_trans (Nat.mul_le_mul (show n + 1 ≤ 1000000001 by omega) hb) (by decide)) hbase
 obtain ⟨v',w',q1,q2,q3,_,q4⟩:=hr 0
 refine ⟨v',w',fun ty=>?_,q2,q3,q4⟩
 have e:(Builtin.append_ #[t,t] ty #[v,.slice (some ⟨G,0,none⟩) 1 1]) = (Builtin.append_ #[t,t] 0 #[v,.slice (some ⟨G,0,none⟩) 1 1]):=rfl
 rw [e]
 exact q1
theorem TR.push {W W1 W':World} {bot:Nat} {vA vE vA':Value} {f:Nat → Rw} {sx:List Opn} {ex:List Elx} (h:TR W bot vA vE f sx ex) (hb:Below W.heap.size W W1) (k:Nat) (nm:ByteArray)
  (hO:W'.ownsRow bot 122 3 vA' (sx.length + 1) (sx.flatMap opC ++ [.int .i64 (k:Int),.string nm,.slice none 0 0])) (hg:W1.grownBy W' vA.ownBlock) (hv:vA'.ownBlock = vA.ownBlock ∨ vA'.ownBlock = some W1.heap.size) :
  ∃ f',TR W' bot vA' vE f' (sx ++ [⟨k,nm,⟨#[]⟩,.slice none 0 0⟩]) ex:=by
 have hf0:(f 0).v = vA:=by rw [h.f0];rfl
 have P1:=pf_app h.pf hb 0 (r:=opR vA' (sx ++ [⟨k,nm,⟨#[]⟩,.slice none 0 0⟩])) (by
  unfold Rw.own opR
  rw [List.length_append,List.flatMap_append]
  exact hO) (by rw [hf0];exact hg) (by rw [hf0];exact hv)
 have P2:=P1.nil (2 + 2 * sx.length) (r:=txR ⟨k,nm,⟨#[]⟩,.slice none 0 0⟩) rfl rfl rfl
 refine ⟨_,P2,?_,?_,fun j o hj=>?_,fun i x hi=>?_⟩
 ·rw [upF_ne _ _ _ (by omega),upF_same]
 ·rw [upF_ne _ _ _ (by omega),upF_ne _ _ _ (by omega),h.f1]
 ·by_cases hjl:j < sx.length
  ·rw [List.getElem?_append_left hjl] at hj
   rw [upF_ne _ _ _ (by omega),upF_ne _ _ _ (by omega)]
   exact h.ft j o hj
  ·have hje:j = sx.length:=by
    have:=(List.getElem?_eq_some_iff.1 hj).1
    rw [List.length_append,List.length_singleton] at this
    omega
   subst hje
   rw [List.getElem?_append_right (Nat.le_refl _),Nat.sub_self] at hj
   cases hj
   rw [upF_same]
 ·rw [upF_ne _ _ _ (by omega),upF_ne _ _ _ (by omega)]
  exact h.fa i x hi
theorem TR.elem {W W1 W':World} {bot:Nat} {vA vE vE':Value} {f:Nat → Rw} {sx:List Opn} {ex:List Elx} (h:TR W bot vA vE f sx ex) (hb:Below W.heap.size W W1) (d p:Int) (nm:ByteArray)
  (hO:W'.ownsRow bot 32 5 vE' (ex.length + 1) (ex.flatMap elC ++ [.int .i64 d,.string nm,.slice none 0 0,.string ⟨#[]⟩,.int .i64 p])) (hg:W1.grownBy W' vE.ownBlock) (hv:vE'.ownBlock = vE.ownBlock ∨ vE'.ownBlock = some W1.heap.size) :
  ∃ f',TR W' bot vA vE' f' sx (ex ++ [⟨⟨d,nm,[],⟨#[]⟩,p⟩,.slice none 0 0⟩]):=by
 have hf1:(f 1).v = vE:=by rw [h.f1];rfl
 have P1:=pf_app h.pf hb 1 (r:=elR vE' (ex ++ [⟨⟨d,nm,[],⟨#[]⟩,p⟩,.slice none 0 0⟩])) (by
  unfold Rw.own elR
  rw [List.length_append,List.flatMap_append]
  exact hO) (by rw [hf1];exact hg) (by rw [hf1];exact hv)
 have P2:=P1.nil (3 + 2 * ex.length) (r:=atR ⟨⟨d,nm,[],⟨#[]⟩,p⟩,.slice none 0 0⟩) rfl rfl rfl
 refine ⟨_,P2,?_,?_,fun j o hj=>?_,fun i x hi=>?_⟩
 ·rw [upF_ne _ _ _ (by omega),upF_ne _ _ _ (by omega),h.f0]
 ·rw [upF_ne _ _ _ (by omega),upF_same]
 ·rw [upF_ne _ _ _ (by omega),upF_ne _ _ _ (by omega)]
  exact h.ft j o hj
 ·by_cases hjl:i < ex.length
  ·rw [List.getElem?_append_left hjl] at hi
   rw [upF_ne _ _ _ (by omega),upF_ne _ _ _ (by omega)]
   exact h.fa i x hi
  ·have hje:i = ex.length:=by
    have:=(List.getElem?_eq_some_iff.1 hi).1
    rw [List.length_append,List.length_singleton] at this
    omega
   subst hje
   rw [List.getElem?_append_right (Nat.le_refl _),Nat.sub_self] at hi
   cases hi
   rw [upF_same]
theorem TR.setE {W:World} {bot:Nat} {vA:Value} {f:Nat → Rw} {sx:List Opn} {ex:List Elx} {g cap:Nat} {z:PF W bot f} (h0:f 0 = opR vA sx) (h1:f 1 = elR (.slice (some ⟨g,0,none⟩) ex.length cap) ex) (ht:∀ j o,sx[j]? = some o → f (2 + 2 * j) = txR o)
  {i j:Nat} {x x':Elx} {u:Value} (hi:ex[i]? = some x) (hj:j < 5) (hu:elC x' = (elC x).set j u) (ha:∀ k y,ex[k]? = some y → k ≠ i → f (3 + 2 * k) = atR y) (ha':f (3 + 2 * i) = atR x') :
  ∃ f',TR (W.setCell ⟨g,i * 5 + j,none⟩ u) bot vA (.slice (some ⟨g,0,none⟩) ex.length cap) f' sx (ex.set i x'):=by
 have P:=z.put 1 (g:=g) (n:=ex.length) (cap:=cap) (o:=i * 5 + j) (by rw [h1];rfl) (by rw [h1];rfl) u
 have hil:=(List.getElem?_eq_some_iff.1 hi).1
 refine ⟨_,P,?_,?_,fun k o hk=>?_,fun k y hk=>?_⟩
 ·rw [upF_ne _ _ _ (by omega),h0]
 ·rw [upF_same,h1]
  unfold elR
  rw [List.length_set,flat_set elC 5 elC_len ex i x x' j u hi hj hu]
 ·rw [upF_ne _ _ _ (by omega)]
  exact ht k o hk
 ·rw [upF_ne _ _ _ (by omega)]
  by_cases hki:k = i
  ·subst hki
   rw [List.getElem?_set_self hil] at hk
   cases hk
   exact ha'
  ·rw [List.getElem?_set_ne (fun e=>hki e.symm)] at hk
   exact ha k y hk hki
theorem TR.attr {W W1 W':World} {bot g cap i:Nat} {vA av':Value} {f:Nat → Rw} {sx:List Opn} {ex:List Elx} {x:Elx} (h:TR W bot vA (.slice (some ⟨g,0,none⟩) ex.length cap) f sx ex) (hi:ex[i]? = some x) (hb:Below W.heap.size W W1) (a:Att)
  (hO:W'.ownsRow bot 54 3 av' (x.e.ats.length + 1) (attCells x.e.ats ++ [.string a.nm,.string a.vl,.int .i64 a.p])) (hg:W1.grownBy W' x.av.ownBlock) (hv:av'.ownBlock = x.av.ownBlock ∨ av'.ownBlock = some W1.heap.size) :
  ∃ f',TR (W'.setCell ⟨g,i * 5 + 2,none⟩ av') bot vA (.slice (some ⟨g,0,none⟩) ex.length cap) f' sx (ex.set i ⟨{ x.e with ats:=x.e.ats ++ [a] },av'⟩):=by
 have hfa:(f (3 + 2 * i)).v = x.av:=by rw [h.fa i x hi];rfl
 have P1:=pf_app h.pf hb (3 + 2 * i) (r:=atR ⟨{ x.e with ats:=x.e.ats ++ [a] },av'⟩) (by
  unfold Rw.own atR
  dsimp only
  rw [List.length_append]
  unfold attCells at hO ⊢
  rw [List.flatMap_append]
  exact hO) (by rw [hfa];exact hg) (by rw [hfa];exact hv)
 refine TR.setE (z:=P1) (by rw [upF_ne _ _ _ (by omega),h.f0]) (by rw [upF_ne _ _ _ (by omega),h.f1]) (fun j o hj=>by rw [upF_ne _ _ _ (by omega)];exact h.ft j o hj) hi (by decide) rfl (fun k y hk hne=>?_) (upF_same _ _ _)
 rw [upF_ne _ _ _ (by omega)]
 exact h.fa k y hk
theorem TR.text {W:World} {bot g cap i:Nat} {vA:Value} {f:Nat → Rw} {sx:List Opn} {ex:List Elx} {x:Elx} (h:TR W bot vA (.slice (some ⟨g,0,none⟩) ex.length cap) f sx ex) (hi:ex[i]? = some x) (t:ByteArray) :
  ∃ f',TR (W.setCell ⟨g,i * 5 + 3,none⟩ (.string t)) bot vA (.slice (some ⟨g,0,none⟩) ex.length cap) f' sx (ex.set i ⟨{ x.e with tx:=t },x.av⟩) :=
 TR.setE (z:=h.pf) h.f0 h.f1 h.ft hi (by decide) rfl (fun k y hk _=>h.fa k y hk) (by rw [h.fa i x hi];rfl)
theorem TR.more {W W':World} {bot g cap j:Nat} {vE tv':Value} {f:Nat → Rw} {sx:List Opn} {ex:List Elx} {o:Opn} (h:TR W bot (.slice (some ⟨g,0,none⟩) sx.length cap) vE f sx ex) (hj:sx[j]? = some o) (t:ByteArray)
  (hO:Buf W' bot tv' (lOf o.tx ++ lOf t)) (hk:∀ k,k < W.heap.size → o.tv.ownBlock ≠ some k → W'.heap[k]? = W.heap[k]?) (hv:∀ k,tv'.ownBlock = some k → o.tv.ownBlock = some k ∨ W.heap.size ≤ k) :
  ∃ f',TR (W'.setCell ⟨g,j * 3 + 2,none⟩ tv') bot (.slice (some ⟨g,0,none⟩) sx.length cap) vE f' (sx.set j { o with tx:=o.tx ++ t,tv:=tv' }) ex:=by
 have hft:(f (2 + 2 * j)).v = o.tv:=by rw [h.ft j o hj];rfl
 have hjl:=(List.getElem?_eq_some_iff.1 hj).1
 have P1:=h.pf.upd (2 + 2 * j) (r:=txR { o with tx:=o.tx ++ t,tv:=tv' }) (by
  unfold Rw.own txR
  dsimp only
  rw [lOf_append]
  exact hO) (fun k hk'=>by rw [hft];exact hv k hk') (fun k _ hk' hne=>hk k hk' (by rw [← hft];exact hne))
 have P:=P1.put 0 (g:=g) (n:=sx.length) (cap:=cap) (o:=j * 3 + 2) (by rw [upF_ne _ _ _ (by omega),h.f0];rfl) (by rw [upF_ne _ _ _ (by omega),h.f0];rfl) tv'
 refine ⟨_,P,?_,?_,fun k q hk=>?_,fun k y hk=>?_⟩
 ·rw [upF_same,upF_ne _ _ _ (by omega),h.f0]
  unfold opR
  rw [List.length_set,flat_set opC 3 opC_len sx j o _ 2 tv' hj (by decide) rfl]
 ·rw [upF_ne _ _ _ (by omega),upF_ne _ _ _ (by omega),h.f1]
 ·by_cases hkj:k = j
  ·subst hkj
   rw [List.getElem?_set_self hjl] at hk
   cases hk
   rw [upF_ne _ _ _ (by omega),upF_same]
  ·rw [List.getElem?_set_ne (fun e=>hkj e.symm)] at hk
   rw [upF_ne _ _ _ (by omega),upF_ne _ _ _ (by omega)]
   exact h.ft k q hk
 ·rw [upF_ne _ _ _ (by omega),upF_ne _ _ _ (by omega)]
  exact h.fa k y hk
theorem TR.pop {W:World} {bot g cap:Nat} {vE:Value} {f:Nat → Rw} {sx:List Opn} {o:Opn} {ex:List Elx} (h:TR W bot (.slice (some ⟨g,0,none⟩) (sx.length + 1) cap) vE f (sx ++ [o]) ex) :
  ∃ f',TR W bot (.slice (some ⟨g,0,none⟩) sx.length cap) vE f' sx ex:=by
 have h0:=h.own0
 rw [List.length_append,List.length_singleton,List.flatMap_append] at h0
 have h1:=own_front h0 (m:=sx.length) (by omega)
 rw [List.take_left' (flat_length opC 3 opC_len sx)] at h1
 have P:=h.pf.upd 0 (r:=opR (.slice (some ⟨g,0,none⟩) sx.length cap) sx) h1 (fun k hk=>.inl (by rw [h.f0];exact hk)) (fun _ _ _ _=>rfl)
 refine ⟨_,P,upF_same _ _ _,by rw [upF_ne _ _ _ (by omega),h.f1],fun j q hj=>?_,fun k y hk=>?_⟩
 ·rw [upF_ne _ _ _ (by omega)]
  exact h.ft j q (by rw [List.getElem?_append_left (List.getElem?_eq_some_iff.1 hj).1];exact hj)
 ·rw [upF_ne _ _ _ (by omega)]
  exact h.fa k y hk
theorem theap_new (w:World) (o:Obj):(w.alloc o).heap[w.heap.size]? = some o:=by
 show (w.heap.push o)[w.heap.size]? = _
 rw [Array.getElem?_push,if_pos rfl]
theorem kr_grown {R bot:Nat} {w W1 w2:World} {b:Option Nat} (hB:bot ≤ w.heap.size) (hb:Below w.heap.size w W1) (hg:W1.grownBy w2 b) (ho:∀ k,b = some k → bot ≤ k):Kr R bot w w2 ∧ ∀ k,k < bot → w2.heap[k]? = w.heap[k]?:=by
 have hk:∀ k,k < bot → w2.heap[k]? = w.heap[k]?:=fun k hk=>(hg.block k (by have:=hb.size;omega) (fun e=>by have:=ho k e.symm;omega)).trans (hb.block k (by omega))
 exact ⟨⟨hg.os.trans hb.os,hg.tape.trans hb.tape,hg.output.trans hb.output,Nat.le_trans hb.size hg.size,fun k h _=>hk k h⟩,hk⟩
theorem push_any (R bot k:Nat) (v:Nat → Value) (vA vE:Value) (f:Nat → Rw) (sx:List Opn) (ex:List Elx) (nm:ByteArray) (w:World) (h7:R7 w R v) (h5:v 5 = vA) (h1:v 1 = .string nm) (hR:R < bot) (hB:bot ≤ w.heap.size) (hT:TR w bot vA vE f sx ex) (hn:sx.length ≤ 16) :
  Calls Tryz.prog 69 #[.pointer (some ⟨R,0,none⟩),.int .i64 (k:Int)] w fun e w'=>e = .returned (.tuple #[]) ∧ Kr R bot w w' ∧ ∃ vA' f',R7 w' R (up7 v 5 vA') ∧ TR w' bot vA' vE f' (sx ++ [⟨k,nm,⟨#[]⟩,.slice none 0 0⟩]) ex:=by
 obtain ⟨pp,cp,hv⟩:=own_sl hT.own0
 subst hv
 have hB2:Below w.heap.size w (w.alloc (.cells #[.int .i64 (k:Int),.string nm,.slice none 0 0] 122)).drew:=(bel1 w _).drew
 obtain ⟨v2,w2,hrun,hown,hgr,hbk⟩:=ap1 (t:=70) Tryz.underlying70 infoOp rfl (by decide) (hT.keep hB2).own0 (theap_new w (.cells #[.int .i64 (k:Int),.string nm,.slice none 0 0] 122)) rfl (fun u hu=>by simp only [List.mem_cons,List.not_mem_nil,or_false] at hu;rcases hu with rfl | rfl | rfl <;> rfl) (by omega) (by decide) (Nat.le_trans hB hB2.size)
 have hob:∀ j,(Value.slice pp sx.length cp).ownBlock = some j → bot ≤ j:=fun j hj=>(ownLt hT.own0 hj).1
 obtain ⟨hK,hbk2⟩:=kr_grown (R:=R) hB hB2 hgr hob
 have h72:R7 w2 R v:=h7.same (hbk2 R hR) hK.size
 obtain ⟨f',hT'⟩:=hT.push hB2 k nm hown hgr hbk
 have HX:Hid (Kr R bot w (w2.setCell ⟨R,5,none⟩ v2) ∧ ∃ vA' f',R7 (w2.setCell ⟨R,5,none⟩ v2) R (up7 v 5 vA') ∧ TR (w2.setCell ⟨R,5,none⟩ v2) bot vA' vE f' (sx ++ [⟨k,nm,⟨#[]⟩,.slice none 0 0⟩]) ex) :=
  ⟨hK.trans (Kr.set R bot 5 w2 v2),v2,f',h72.set 5 v2,hT'.setR hR⟩
 have e5:=h7.c 5 (by decide)
 have e1:=h7.c 1 (by decide)
 rw [h5] at e5
 rw [h1] at e1
 have e5b:=(hB2.cell (p:=⟨R,5,none⟩) h7.lt).trans e5
 have e1b:=(hB2.cell (p:=⟨R,1,none⟩) h7.lt).trans e1
 have e5c:(w.alloc (.cells #[.int .i64 (k:Int),.string nm,.slice none 0 0] 122)).cell? ⟨R,5,none⟩ = some (.slice pp sx.length cp):=e5b
 have e1c:(w.alloc (.cells #[.int .i64 (k:Int),.string nm,.slice none 0 0] 122)).cell? ⟨R,1,none⟩ = some (.string nm):=e1b
 have q5:=h72.c 5 (by decide)
 have g5:=h72.fz 5
 obtain ⟨p2,c2,hv2⟩:=own_sl hown
 subst hv2
 clear hK hbk2 h72 hT' hown hgr hbk hT hob hB2 e5b e1b h7
 go_enter Tryz.func69,Tryz.ntmps69
 go_wp2_with fail
 go_region_law (refine step_append_ex ?_ (.tmp 8) (.tmp 17) _ _ ?_ _ _ ?_ ?_ (fun a b=>a = _ ∧ b = w2) ⟨_,w2,hrun,rfl,rfl⟩ ?_;rfl;rfl;rfl;rfl;rintro _ _ ⟨rfl,rfl⟩)
 all_goals
  go_wp2_with fail
  go_end0
  exact ⟨rfl,HX.out⟩
theorem pop_any (R:Nat) (v:Nat → Value) (g n c:Nat) (w:World) (h:R7 w R v) (h5:v 5 = .slice (some ⟨g,0,none⟩) (n + 1) c) (hn:n ≤ 16) (hc:n + 1 ≤ c) :
  Calls Tryz.prog 72 #[.pointer (some ⟨R,0,none⟩)] w fun e w'=>e = .returned (.tuple #[]) ∧ w' = w.drew.setCell ⟨R,5,none⟩ (.slice (some ⟨g,0,none⟩) n c):=by
 have e5:=h.c 5 (by decide)
 have f5:=h.fz 5
 rw [h5] at e5
 have hw:IntKind.i64.wrap (n:Int) = n:=by rw [IntKind.wrap_i64];omega
 have hw2:IntKind.i64.wrap ((n:Int) + 1 - 1) = n:=by rw [IntKind.wrap_i64];omega
 have hnc:n ≤ c:=by omega
 have hnc2:(n:Int) ≤ c:=by omega
 clear h h5 hc
 go_enter Tryz.func72,Tryz.ntmps72
 go_wp2_with fail
 go_region_law (fail)
 all_goals
  go_wp2_with fail
  go_end0
  exact ⟨rfl,rfl⟩
theorem mustPair_nil (R:Nat) (v:Nat → Value) (w:World) (h:R7 w R v) (p:Option Addr) (c:Nat) (h5:v 5 = .slice p 0 c) :
  Calls Tryz.prog 73 #[.pointer (some ⟨R,0,none⟩)] w fun e w'=>e = .returned (.tuple #[]) ∧ ∃ n,w' = (w.drewN n).setCell ⟨R,4,none⟩ (.int .i64 51):=by
 have cD:=fun m=>depth_any R v p 0 c (w.drewN m) (h.drewN m) h5
 have cF:=fun m=>refuse_any R v 51 (w.drewN m) (h.drewN m)
 go_enter Tryz.func73,Tryz.ntmps73
 go_wp2_with fail
 go_quiet ((go_at_call 68;exact Calls.quiet_of (cD _)))
 go_wp2_with (go_at_call 51;refine (cF _).mono ?_;rintro _ _ ⟨rfl,rfl⟩)
 go_end0
 exact ⟨rfl,_,rfl⟩
theorem mustPair_no (R:Nat) (v:Nat → Value) (w:World) (h:R7 w R v) (nm a:ByteArray) (h1:v 1 = .string nm) (g n c:Nat) (h5:v 5 = .slice (some ⟨g,0,none⟩) (n + 1) c) (hn:n ≤ 16) (hx:w.cell? ⟨g,n * 3 + 1,none⟩ = some (.string a)) (hne:a ≠ nm) :
  Calls Tryz.prog 73 #[.pointer (some ⟨R,0,none⟩)] w fun e w'=>e = .returned (.tuple #[]) ∧ ∃ n,w' = (w.drewN n).setCell ⟨R,4,none⟩ (.int .i64 51):=by
 have cD:=fun m=>depth_any R v _ _ c (w.drewN m) (h.drewN m) h5
 have cI:=fun m=>innermost_any R v g n c (w.drewN m) (h.drewN m) h5 hn
 have cF:=fun m=>refuse_any R v 51 (w.drewN m) (h.drewN m)
 have e1:=h.c 1 (by decide)
 rw [h1] at e1
 have z0:¬ ((n:Int) + 1 = 0):=by omega
 have z1:(((n:Int) + 1) == 0) = false:=beq_eq_false_iff_ne.2 z0
 have z2:=beq_ba hne
 have z3:(a.toList != nm.toList) = true:=by rw [bne,z2];rfl
 clear h h1 h5
 go_enter Tryz.func73,Tryz.ntmps73
 go_wp2_with fail
 go_quiet (first | (go_at_call 68;exact Calls.quiet_of (cD _)) | (go_at_call 70;exact Calls.quiet_of (cI _)))
 go_wp2_with (go_at_call 51;refine (cF _).mono ?_;rintro _ _ ⟨rfl,rfl⟩)
 go_end0
 exact ⟨rfl,_,rfl⟩
theorem mustPair_yes (R:Nat) (v:Nat → Value) (w:World) (h:R7 w R v) (nm:ByteArray) (h1:v 1 = .string nm) (g n c:Nat) (h5:v 5 = .slice (some ⟨g,0,none⟩) (n + 1) c) (hn:n ≤ 16) (hx:w.cell? ⟨g,n * 3 + 1,none⟩ = some (.string nm)) :
  Calls Tryz.prog 73 #[.pointer (some ⟨R,0,none⟩)] w fun e w'=>e = .returned (.tuple #[]) ∧ ∃ n,w' = w.drewN n:=by
 have cD:=fun m=>depth_any R v _ _ c (w.drewN m) (h.drewN m) h5
 have cI:=fun m=>innermost_any R v g n c (w.drewN m) (h.drewN m) h5 hn
 have e1:=h.c 1 (by decide)
 rw [h1] at e1
 have z0:¬ ((n:Int) + 1 = 0):=by omega
 have z1:(((n:Int) + 1) == 0) = false:=beq_eq_false_iff_ne.2 z0
 clear h h1 h5
 go_enter Tryz.func73,Tryz.ntmps73
 go_wp2_with fail
 go_quiet (first | (go_at_call 68;exact Calls.quiet_of (cD _)) | (go_at_call 70;exact Calls.quiet_of (cI _)))
 go_wp2_with fail
 go_end0
 exact ⟨rfl,_,rfl⟩
theorem mustBeEmpty_yes (R:Nat) (v:Nat → Value) (w:World) (h:R7 w R v) (p:Option Addr) (c:Nat) (h5:v 5 = .slice p 0 c) :
  Calls Tryz.prog 50 #[.pointer (some ⟨R,0,none⟩)] w fun e w'=>e = .returned (.tuple #[]) ∧ ∃ n,w' = w.drewN n:=by
 have cD:=depth_any R v p 0 c w h h5
 go_enter Tryz.func50,Tryz.ntmps50
 go_wp2_with (go_at_call 68;refine cD.mono ?_;rintro _ _ ⟨rfl,m,rfl⟩)
 go_end0
 exact ⟨rfl,_,rfl⟩
theorem mustBeEmpty_no (R:Nat) (v:Nat → Value) (w:World) (h:R7 w R v) (p:Option Addr) (n c:Nat) (h5:v 5 = .slice p (n + 1) c) :
  Calls Tryz.prog 50 #[.pointer (some ⟨R,0,none⟩)] w fun e w'=>e = .returned (.tuple #[]) ∧ ∃ n,w' = (w.drewN n).setCell ⟨R,4,none⟩ (.int .i64 51):=by
 have cD:=depth_any R v p _ c w h h5
 have cF:=fun m=>refuse_any R v 51 (w.drewN m) (h.drewN m)
 have z0:(0:Int) < (n:Int) + 1:=by omega
 go_enter Tryz.func50,Tryz.ntmps50
 go_wp2_with (first | (go_at_call 68;refine cD.mono ?_;rintro _ _ ⟨rfl,m,rfl⟩) | (go_at_call 51;refine (cF _).mono ?_;rintro _ _ ⟨rfl,rfl⟩))
 go_end0
 exact ⟨rfl,_,rfl⟩
theorem Hid.mkA {p:Prop} (h:p):Hid p:=h
theorem aheap_new (w:World) (o:Obj):(w.alloc o).heap[w.heap.size]? = some o:=by
 show (w.heap.push o)[w.heap.size]? = _
 rw [Array.getElem?_push,if_pos rfl]
abbrev attV (a:Att):Value:=.agg #[.string a.nm,.string a.vl,.int .i64 a.p]
theorem hasAttr1_any (a:Att) (B:Nat) (nm:ByteArray) (w:World) (hB:w.cell? ⟨B,0,none⟩ = some (.string nm)) :
  Calls Tryz.prog 91 #[attV a,.pointer (some ⟨B,0,none⟩)] w fun e w'=>e = .returned (.bool (decide (a.nm = nm))) ∧ Below w.heap.size w w':=by
 have hb:=bel1 w (.cells #[.string a.nm,.string a.vl,.int .i64 a.p] 54)
 have hB2:(w.alloc (.cells #[.string a.nm,.string a.vl,.int .i64 a.p] 54)).cell? ⟨B,0,none⟩ = some (.string nm):=(hb.cell (p:=⟨B,0,none⟩) (World.block_lt_of_cell? w ⟨B,0,none⟩ hB)).trans hB
 have hN:(w.alloc (.cells #[.string a.nm,.string a.vl,.int .i64 a.p] 54)).cell? ⟨w.heap.size,0,none⟩ = some (.string a.nm):=by simp only [World.cell?,aheap_new];rfl
 have HB:=Hid.mkA hb
 by_cases h:a.nm = nm
 ·subst h
  clear hb hB
  go_enter Tryz.func91,Tryz.ntmps91
  go_wp2_with fail
  go_ret
  exact ⟨by simp,HB.out⟩
 ·have z:=beq_ba h
  clear hb hB
  go_enter Tryz.func91,Tryz.ntmps91
  go_wp2_with fail
  go_ret
  exact ⟨by simp [h],HB.out⟩
theorem hasA_cons (a:Att) (l:List Att) (nm:ByteArray):hasA (a :: l) nm = (decide (a.nm = nm) || hasA l nm):=rfl
theorem hasA_drop {l:List Att} {j:Nat} {a:Att} (h:l[j]? = some a) (nm:ByteArray):hasA (l.drop j) nm = (decide (a.nm = nm) || hasA (l.drop (j + 1)) nm):=by
 have hl:=(List.getElem?_eq_some_iff.1 h).1
 rw [List.drop_eq_getElem_cons hl,(List.getElem?_eq_some_iff.1 h).2,hasA_cons]
theorem indexFunc_any (l:List Att) (pa:Option Addr) (ca B:Nat) (nm:ByteArray) (w:World) (ha:ARow w pa w.heap.size l) (hB:w.cell? ⟨B,0,none⟩ = some (.string nm)) (hl:l.length ≤ 1000000) :
  Calls Tryz.prog 117 #[.slice pa l.length ca,.func (.func 91) #[] #[.pointer (some ⟨B,0,none⟩)]] w fun e w'=>(∃ z:Int,e = .returned (.int .i64 z) ∧ (0 ≤ z ↔ hasA l nm = true) ∧ -1 ≤ z ∧ z ≤ 1000000) ∧ Below w.heap.size w w':=by
 have hBl:=World.block_lt_of_cell? w ⟨B,0,none⟩ hB
 go_enter Tryz.func117,Tryz.ntmps117
 go_wp2_with fail
 go_loopw [5,8] (fun i5 n wr=>∃ j:Nat,j ≤ l.length ∧ n = .int .i64 j ∧ Below w.heap.size w wr ∧ hasA l nm = hasA (l.drop j) nm ∧ i5 = i5) (fun _ n _=>l.length - (RowKit.intOf n).toNat)
 case atStart=>exact ⟨0,Nat.zero_le _,by go_num,Below.refl _ _,rfl,rfl⟩
 case round =>
  obtain ⟨j,hj,rfl,hb,hq,-⟩:=hrel
  by_cases hlt:j < l.length
  ·obtain ⟨a,hx⟩:∃ a,l[j]? = some a:=⟨l[j],List.getElem?_eq_getElem hlt⟩
   obtain ⟨g,o,rfl,hg,q0,q1,q2⟩:=ha.c j a hx
   have r0:=(hb.cell (p:=⟨g,_,none⟩) hg).trans q0
   have r1:=(hb.cell (p:=⟨g,_,none⟩) hg).trans q1
   have r2:=(hb.cell (p:=⟨g,_,none⟩) hg).trans q2
   have c:=hasAttr1_any a B nm wr ((hb.cell (p:=⟨B,0,none⟩) hBl).trans hB)
   have hlti:(j:Int) < l.length:=by omega
   have hd:=hasA_drop hx nm
   have hd':=hd
   have hq0:=hq
   clear q0 q1 q2 ha hx hd hq
   by_cases hn:a.nm = nm
   ·rw [decide_eq_true hn] at c
    have HX:Hid (0 ≤ (j:Int) ↔ hasA l nm = true):=Hid.mkA (by rw [hq0,hd',decide_eq_true hn];simp)
    clear hn hq0 hd'
    go_wp2_with fail
    refine c.mono ?_
    rintro e w1 ⟨rfl,hb1⟩
    go_wp2_with fail
    go_ret
    exact ⟨⟨(j:Int),rfl,HX.out,by omega,by omega⟩,hb.trans (hb1.mono hb.size)⟩
   ·rw [decide_eq_false hn] at c
    have HX:Hid (hasA l nm = hasA (l.drop (j + 1)) nm):=Hid.mkA (by rw [hq0,hd',decide_eq_false hn];rfl)
    clear hn hq0 hd'
    go_wp2_with fail
    refine c.mono ?_
    rintro e w1 ⟨rfl,hb1⟩
    go_wp2_with fail
    go_roundw
    case rel=>exact ⟨j + 1,by omega,by go_num,hb.trans (hb1.mono hb.size),HX.out,trivial⟩
    case measure=>simp [RowKit.intOf];omega
  ·obtain rfl:j = l.length:=by omega
   have HX:Hid (0 ≤ (-1:Int) ↔ hasA l nm = true):=Hid.mkA (by rw [hq];simp [hasA])
   clear hq
   go_wp2_with fail
   go_ret
   exact ⟨⟨-1,rfl,HX.out,by omega,by omega⟩,hb⟩
theorem containsFunc_any (l:List Att) (pa:Option Addr) (ca B:Nat) (nm:ByteArray) (w:World) (ha:ARow w pa w.heap.size l) (hB:w.cell? ⟨B,0,none⟩ = some (.string nm)) (hl:l.length ≤ 1000000) :
  Calls Tryz.prog 90 #[.slice pa l.length ca,.func (.func 91) #[] #[.pointer (some ⟨B,0,none⟩)]] w fun e w'=>e = .returned (.bool (hasA l nm)) ∧ Below w.heap.size w w':=by
 have c:=indexFunc_any l pa ca B nm w ha hB hl
 cases hh:hasA l nm
 ·rw [hh] at c
  go_enter Tryz.func90,Tryz.ntmps90
  go_wp2_with (go_at_call 117;refine c.mono ?_;rintro _ w1 ⟨⟨z,rfl,hz,h1,h2⟩,hb⟩;have z0:¬ (0 ≤ z):=fun h=>by have:=hz.1 h;cases this)
  go_ret
  exact ⟨rfl,hb⟩
 ·rw [hh] at c
  go_enter Tryz.func90,Tryz.ntmps90
  go_wp2_with (go_at_call 117;refine c.mono ?_;rintro _ w1 ⟨⟨z,rfl,hz,h1,h2⟩,hb⟩;have z0:0 ≤ z:=hz.2 rfl)
  go_ret
  exact ⟨rfl,hb⟩
theorem hasAttr_any (l:List Att) (pa:Option Addr) (ca:Nat) (nm:ByteArray) (w:World) (ha:ARow w pa w.heap.size l) (hl:l.length ≤ 1000000) :
  Calls Tryz.prog 71 #[.slice pa l.length ca,.string nm] w fun e w'=>e = .returned (.bool (hasA l nm)) ∧ Below w.heap.size w w':=by
 have hb:=bel1 w (.cells #[.string nm] 9)
 have hN:(w.alloc (.cells #[.string nm] 9)).cell? ⟨w.heap.size,0,none⟩ = some (.string nm):=by simp only [World.cell?,aheap_new];rfl
 have c:=containsFunc_any l pa ca w.heap.size nm _ ((ha.below hb).mono hb.size) hN hl
 have HB:=Hid.mkA hb
 clear hb hN ha
 go_enter Tryz.func71,Tryz.ntmps71
 go_wp2_with (go_at_call 90;refine c.mono ?_;rintro _ w1 ⟨rfl,hb⟩)
 go_ret
 exact ⟨rfl,HB.out.trans (hb.mono HB.out.size)⟩
end Go.Proofs.YtchfphakhmifmabGreatDoor

import Derived.Test.YtchfphakhmifmabGreatDoorMD
namespace Go.Proofs.YtchfphakhmifmabGreatDoor
open Go.ChangeShapes Go.WideShapes Go.ChangeAt Go.RowKit Go.Shelf Go.Lib
def itC (t:IT):List Value:=[.int .i64 t.k,.string t.nm,.string t.vl,.int .i64 t.p]
def itCells (ts:List IT):List Value:=ts.flatMap itC
theorem itCells_length (ts:List IT):(itCells ts).length = ts.length * 4:=by
 induction ts with
 | nil=>rfl
 | cons t ts ih =>
  unfold itCells at ih ⊢
  rw [List.flatMap_cons,List.length_append,ih,List.length_cons]
  show 4 + _ = _
  omega
theorem itCells_one (ts:List IT):∀ u ∈ itCells ts,u.oneCell' = true:=by
 intro u hu
 obtain ⟨t,_,h⟩:=List.mem_flatMap.1 hu
 simp [itC] at h
 rcases h with rfl | rfl | rfl | rfl <;> rfl
theorem itCells_get:∀ (ts:List IT) (i:Nat) (t:IT),ts[i]? = some t → ∀ j,j < 4 → (itCells ts)[i * 4 + j]? = (itC t)[j]?
 | [],_,_,h,_,_=>by cases h
 | a :: r,0,t,h,j,hj=>by
  cases h
  unfold itCells
  rw [List.flatMap_cons,List.getElem?_append_left (by simp [itC];omega),Nat.zero_mul,Nat.zero_add]
 | a :: r,i + 1,t,h,j,hj=>by
  have ih:=itCells_get r i t h j hj
  unfold itCells at ih ⊢
  have hl:(itC a).length = 4:=rfl
  rw [List.flatMap_cons,List.getElem?_append_right (by omega),hl,← ih]
  congr 1
  omega
theorem addrI (g o k:Nat):(⟨g,o,none⟩:Addr).add k = ⟨g,o + k,none⟩:=by unfold Addr.add;split <;> simp_all
theorem IRow.news {w:World} {ad:Addr} {H:Nat} {ts:List IT} (h:IRow w (some ad) H ts):∀ j u,(itCells ts)[j]? = some u → w.cell? (ad.add j) = some u:=by
 intro j u hu
 have hj:j < ts.length * 4:=by rw [← itCells_length];exact (List.getElem?_eq_some_iff.1 hu).1
 have hi:j / 4 < ts.length:=by omega
 obtain ⟨g,o,e,_,h0,h1,h2,h3⟩:=h.c (j / 4) ts[j / 4] (List.getElem?_eq_getElem hi)
 cases e
 have hg:=itCells_get ts (j / 4) ts[j / 4] (List.getElem?_eq_getElem hi) (j % 4) (by omega)
 rw [show j / 4 * 4 + j % 4 = j by omega,hu] at hg
 rw [addrI]
 have h4:j % 4 = 0 ∨ j % 4 = 1 ∨ j % 4 = 2 ∨ j % 4 = 3:=by omega
 rcases h4 with h4 | h4 | h4 | h4
 ·rw [h4] at hg
  cases Option.some.inj hg
  rw [show o + j = o + j / 4 * 4 by omega];exact h0
 ·rw [h4] at hg
  cases Option.some.inj hg
  rw [show o + j = o + j / 4 * 4 + 1 by omega];exact h1
 ·rw [h4] at hg
  cases Option.some.inj hg
  rw [show o + j = o + j / 4 * 4 + 2 by omega];exact h2
 ·rw [h4] at hg
  cases Option.some.inj hg
  rw [show o + j = o + j / 4 * 4 + 3 by omega];exact h3
theorem IRow.of_own {w:World} {base g cap H:Nat} {al bl:List IT} {n:Nat} (h:w.ownsRow base 67 4 (.slice (some ⟨g,0,none⟩) n cap) n (itCells (al ++ bl))) (hg:g < H):IRow w (some ⟨g,0,none⟩) H al :=
 ⟨fun i t ht=>by
  have hti:(al ++ bl)[i]? = some t:=by rw [List.getElem?_append_left (List.getElem?_eq_some_iff.1 ht).1];exact ht
  have hc:=World.ownsRow.cells h (g:=g) rfl
  have c0:=hc (i * 4) _ (itCells_get _ i t hti 0 (by decide))
  have c1:=hc (i * 4 + 1) _ (itCells_get _ i t hti 1 (by decide))
  have c2:=hc (i * 4 + 2) _ (itCells_get _ i t hti 2 (by decide))
  have c3:=hc (i * 4 + 3) _ (itCells_get _ i t hti 3 (by decide))
  rw [addrI] at c0 c1 c2 c3
  exact ⟨g,0,rfl,hg,c0,c1,c2,c3⟩⟩
theorem tinfoI:∃ i,Tryz.prog.info? 67 = some i ∧ i.zero = some zTok ∧ i.size = 4 ∧ i.bytes = 48:=by
 obtain ⟨i,hi,hz⟩:=Option.map_eq_some_iff.1 infoT
 simp only [Prod.mk.injEq] at hz
 exact ⟨i,hi,hz.1,hz.2.1,hz.2.2⟩
theorem it_ap {W:World} {base:Nat} {v:Value} {al bl:List IT} {ad:Addr} {H:Nat} (cb:Nat) (own:W.ownsRow base 67 4 v al.length (itCells al)) (hB:IRow W (some ad) H bl) (hl:al.length + bl.length ≤ 2000000) (hb:base ≤ W.heap.size) :
  ∃ v' w',(∀ ty,(Builtin.append_ #[62,62] ty #[v,.slice (some ad) bl.length cb]).run Tryz.prog W = .ok v' w') ∧ (w'.ownsRow base 67 4 v' (al.length + bl.length) (itCells (al ++ bl)) ∧ Below base W w'):=by
 obtain ⟨i0,hi,hz,hs,hby⟩:=tinfoI
 have hr:=fun ty=>run_append_own_at (P:=Tryz.prog) W base 62 ty 67 i0 zTok 4 48 Tryz.underlying62 hi hz hs hby rfl (by decide) v al.length (itCells al) own ad bl.length cb (itCells bl) (itCells_length bl) hB.news (itCells_one bl) (by simp only [maxLen];omega) (by omega) hb
 obtain ⟨v',w',h1,h2,h3,_⟩:=hr 0
 have hob:∀ g,v.ownBlock = some g → base ≤ g:=fun g hg=>by
  rcases own.2 with ⟨rfl,_⟩ | ⟨g',cap,cur,rfl,hb',_⟩
  ·cases hg
  ·cases hg;exact hb'
 refine ⟨v',w',fun ty=>?_,by unfold itCells at h2 ⊢;rw [List.flatMap_append];exact h2,⟨h3.os,h3.tape,h3.output,h3.size,fun k hk=>h3.block k (by omega) (fun e=>by have:=hob k e.symm;omega)⟩⟩
 have e:(Builtin.append_ #[62,62] ty #[v,.slice (some ad) bl.length cb]) = (Builtin.append_ #[62,62] 0 #[v,.slice (some ad) bl.length cb]):=rfl
 rw [e]
 exact h1
end Go.Proofs.YtchfphakhmifmabGreatDoor

import Derived.Test.YtchfphakhmifmabGreatDoorTA1
namespace Go.Proofs.YtchfphakhmifmabGreatDoor
set_option maxRecDepth 1000000
set_option maxHeartbeats 16000000
open Go.ChangeShapes Go.WideShapes Go.ChangeAt Go.RowKit Go.Lib
def opQ (es:List El) (i:Nat):Nat × ByteArray × ByteArray:=match es[i]? with
 | some e=>(i,e.nm,e.tx)
 | none=>(i,⟨#[]⟩,⟨#[]⟩)
def Opn.q (o:Opn):Nat × ByteArray × ByteArray:=(o.el,o.nm,o.tx)
structure Rdr (W:World) (R bot:Nat) (v:Nat → Value) (s:PSt):Prop where
 r7:R7 W R v
 hR:R < bot
 hB:bot ≤ W.heap.size
 ok:POk s
 x:∃ f sx ex,TR W bot (v 5) (v 6) f sx ex ∧ sx.map Opn.q = s.op.map (opQ s.es) ∧ ex.map Elx.e = hide s.op s.es
theorem depth_same (R:Nat) (v:Nat → Value) (p:Option Addr) (n c:Nat) (w:World) (h:R7 w R v) (h5:v 5 = .slice p n c) :
  Calls Tryz.prog 68 #[.pointer (some ⟨R,0,none⟩)] w fun e w'=>e = .returned (.int .i64 (n:Int)) ∧ w' = w:=by
 have e5:=h.c 5 (by decide)
 rw [h5] at e5
 go_enter Tryz.func68,Tryz.ntmps68
 go_wp2_with fail
 go_ret
 exact ⟨rfl,rfl⟩
theorem ent_depth:∀ ag w,(callFunc 68 ag).run Tryz.prog w = .ok (.enter 68 ag) w:=enters_of Tryz.func68 (by kernel_rfl) rfl
theorem ent_push:∀ ag w,(callFunc 69 ag).run Tryz.prog w = .ok (.enter 69 ag) w:=enters_of Tryz.func69 (by kernel_rfl) rfl
def TakePost (R bot:Nat) (w:World) (v:Nat → Value) (z:Except Nat PSt) (e:Ending) (w':World):Prop :=
 e = .returned (.tuple #[]) ∧ Kr R bot w w' ∧ ∃ v',(∀ o,o < 4 → v' o = v o) ∧ (match z with
  | .error er=>R7 w' R v' ∧ v' 4 = .int .i64 (er:Int)
  | .ok s'=>Rdr w' R bot v' s' ∧ v' 4 = v 4)
theorem up7_ne (v:Nat → Value) {i o:Nat} (u:Value) (h:o ≠ i):up7 v i u o = v o:=if_neg h
theorem up7_same (v:Nat → Value) (i:Nat) (u:Value):up7 v i u i = u:=if_pos rfl
theorem TakePost.refuse {R bot m:Nat} {w:World} {v:Nat → Value} (h:R7 w R v) (er:Nat):TakePost R bot w v (.error er) (.returned (.tuple #[])) ((w.drewN m).setCell ⟨R,4,none⟩ (.int .i64 (er:Int))) :=
 ⟨rfl,((Kr.refl R bot w).drewN m).trans (Kr.set R bot 4 _ _),up7 v 4 (.int .i64 (er:Int)),fun o ho=>up7_ne v _ (by omega),(h.drewN m).set 4 _,up7_same _ _ _⟩
theorem Rdr.sl {W:World} {R bot:Nat} {v:Nat → Value} {s:PSt} (h:Rdr W R bot v s):∃ p c,v 5 = .slice p s.op.length c:=by
 obtain ⟨f,sx,ex,hT,hs,he⟩:=h.x
 obtain ⟨p,c,e⟩:=own_sl hT.own0
 have hl:sx.length = s.op.length:=by have:=congrArg List.length hs;simpa using this
 exact ⟨p,c,by rw [e,hl]⟩
theorem Rdr.el {W:World} {R bot:Nat} {v:Nat → Value} {s:PSt} (h:Rdr W R bot v s):∃ p c,v 6 = .slice p s.es.length c:=by
 obtain ⟨f,sx,ex,hT,hs,he⟩:=h.x
 obtain ⟨p,c,e⟩:=own_sl hT.own1
 have hl:ex.length = s.es.length:=by have:=congrArg List.length he;simpa [hide_length] using this
 exact ⟨p,c,by rw [e,hl]⟩
theorem opQ_app (es:List El) (x:El) (i:Nat) (h:i < es.length):opQ (es ++ [x]) i = opQ es i:=by
 unfold opQ
 rw [List.getElem?_append_left h]
theorem opQ_new (es:List El) (x:El):opQ (es ++ [x]) es.length = (es.length,x.nm,x.tx):=by
 unfold opQ
 rw [List.getElem?_append_right (Nat.le_refl _),Nat.sub_self]
 rfl
theorem Hid.mkT {p:Prop} (h:p):Hid p:=h
theorem Rdr.opened {W:World} {R bot:Nat} {v:Nat → Value} {s:PSt} {f:Nat → Rw} {sx:List Opn} {ex:List Elx} (nm:ByteArray) (p:Nat) (h7:R7 W R v) (hR:R < bot) (hB:bot ≤ W.heap.size) (hok:POk s)
  (hs:sx.map Opn.q = s.op.map (opQ s.es)) (he:ex.map Elx.e = hide s.op s.es) (hok':POk ⟨s.op ++ [s.es.length],s.es ++ [⟨(s.op.length:Int) + 1,nm,[],⟨#[]⟩,(p:Int)⟩]⟩)
  (hT:TR W bot (v 5) (v 6) f (sx ++ [⟨s.es.length,nm,⟨#[]⟩,.slice none 0 0⟩]) (ex ++ [⟨⟨(s.op.length:Int) + 1,nm,[],⟨#[]⟩,(p:Int)⟩,.slice none 0 0⟩])) :
  Rdr W R bot v ⟨s.op ++ [s.es.length],s.es ++ [⟨(s.op.length:Int) + 1,nm,[],⟨#[]⟩,(p:Int)⟩]⟩:=by
 refine ⟨h7,hR,hB,hok',f,_,_,hT,?_,?_⟩
 ·rw [List.map_append,List.map_append,hs]
  congr 1
  ·exact List.map_congr_left fun i hi=>(opQ_app _ _ i (hok.lt i hi)).symm
  ·simp only [List.map_cons,List.map_nil]
   rw [opQ_new]
   rfl
 ·rw [List.map_append,he,hide_push _ _ _ rfl]
  rfl
theorem open_yes (R bot:Nat) (v:Nat → Value) (s:PSt) (nm:ByteArray) (p:Nat) (w:World) (h:Rdr w R bot v s) (h1:v 1 = .string nm) (h3:v 3 = .int .i64 (p:Int)) (c1:¬ (s.op = [] ∧ s.es ≠ [])) (c2:¬ s.op.length = 16) (c3:¬ s.es.length = 20000)
  (hok':POk ⟨s.op ++ [s.es.length],s.es ++ [⟨(s.op.length:Int) + 1,nm,[],⟨#[]⟩,(p:Int)⟩]⟩) :
  Calls Tryz.prog 43 #[.pointer (some ⟨R,0,none⟩)] w (TakePost R bot w v (.ok ⟨s.op ++ [s.es.length],s.es ++ [⟨(s.op.length:Int) + 1,nm,[],⟨#[]⟩,(p:Int)⟩]⟩)):=by
 obtain ⟨pa,ca,h5⟩:=h.sl
 obtain ⟨pe,ce,h6⟩:=h.el
 obtain ⟨f,sx,ex,hT,hs,he⟩:=h.x
 have hsl:sx.length = s.op.length:=by have:=congrArg List.length hs;simpa using this
 have hexl:ex.length = s.es.length:=by have:=congrArg List.length he;simpa [hide_length] using this
 have hol:=h.ok.ol
 have hel:=h.ok.el
 have cD:=depth_same R v _ _ _ w h.r7 h5
 have cP:Calls Tryz.prog 69 #[.pointer (some ⟨R,0,none⟩),.int .i64 (s.es.length:Int)] w.drew fun e w'=>∃ u,e = .returned u ∧ (u = .tuple #[] ∧ ∃ w3 p3 c3,w'.cell? ⟨R,6,none⟩ = some (.slice pe s.es.length ce) ∧ w'.cell? ⟨R,1,none⟩ = some (.string nm) ∧ w'.cell? ⟨R,3,none⟩ = some (.int .i64 (p:Int)) ∧ (w'.alloc (.cells #[.int .i64 ((s.op.length:Int) + 1),.string nm,.slice none 0 0,.string ⟨#[]⟩,.int .i64 (p:Int)] 32)).cell? ⟨R,6,none⟩ = some (.slice pe s.es.length ce) ∧ (w'.alloc (.cells #[.int .i64 ((s.op.length:Int) + 1),.string nm,.slice none 0 0,.string ⟨#[]⟩,.int .i64 (p:Int)] 32)).cell? ⟨R,1,none⟩ = some (.string nm) ∧ (w'.alloc (.cells #[.int .i64 ((s.op.length:Int) + 1),.string nm,.slice none 0 0,.string ⟨#[]⟩,.int .i64 (p:Int)] 32)).cell? ⟨R,3,none⟩ = some (.int .i64 (p:Int)) ∧
   Calls Tryz.prog 68 #[.pointer (some ⟨R,0,none⟩)] w'.drew (fun e w''=>∃ u,e = .returned u ∧ (u = .int .i64 ((s.op.length:Int) + 1) ∧ w'' = w'.drew)) ∧ w3.cell? ⟨R,6,none⟩ = some (.slice pe s.es.length ce) ∧ w3.frozen? ⟨R,6,none⟩ = false ∧ w3.cell? ⟨R,1,none⟩ = some (.string nm) ∧ w3.cell? ⟨R,3,none⟩ = some (.int .i64 (p:Int)) ∧
   (∀ ty,(Builtin.append_ #[24,24] ty #[.slice pe s.es.length ce,.slice (some ⟨w'.heap.size,0,none⟩) 1 1]).run Tryz.prog (w'.alloc (.cells #[.int .i64 ((s.op.length:Int) + 1),.string nm,.slice none 0 0,.string ⟨#[]⟩,.int .i64 (p:Int)] 32)).drew = .ok (.slice p3 (s.es.length + 1) c3) w3) ∧
   TakePost R bot w v (.ok ⟨s.op ++ [s.es.length],s.es ++ [⟨(s.op.length:Int) + 1,nm,[],⟨#[]⟩,(p:Int)⟩]⟩) (.returned (.tuple #[])) (w3.setCell ⟨R,6,none⟩ (.slice p3 (s.es.length + 1) c3))):=by
  refine (push_any R bot s.es.length v (v 5) (v 6) f sx ex nm w.drew ⟨h.r7.c,h.r7.fz,h.r7.lt⟩ rfl h1 h.hR h.hB (hT.same fun _ _ _=>rfl) (by omega)).mono ?_
  rintro e w1 ⟨rfl,hK,vA',f',h71,hT1⟩
  obtain ⟨p2,c2,hv2⟩:=own_sl hT1.own0
  rw [List.length_append,List.length_singleton,hsl] at hv2
  subst hv2
  have hB3:Below w1.heap.size w1 (w1.alloc (.cells #[.int .i64 ((s.op.length:Int) + 1),.string nm,.slice none 0 0,.string ⟨#[]⟩,.int .i64 (p:Int)] 32)).drew:=(bel1 w1 _).drew
  have hBw1:bot ≤ w1.heap.size:=Nat.le_trans h.hB hK.size
  obtain ⟨v3,w3,hrun,hown,hgr,hbk⟩:=ap1 (t:=24) Tryz.underlying24 infoEl rfl (by decide) (hT1.keep hB3).own1 (theap_new w1 (.cells #[.int .i64 ((s.op.length:Int) + 1),.string nm,.slice none 0 0,.string ⟨#[]⟩,.int .i64 (p:Int)] 32)) rfl (fun u hu=>by simp only [List.mem_cons,List.not_mem_nil,or_false] at hu;rcases hu with rfl | rfl | rfl | rfl | rfl <;> rfl) (by omega) (by decide) (Nat.le_trans hBw1 hB3.size)
  have hob:∀ j,(v 6).ownBlock = some j → bot ≤ j:=fun j hj=>(ownLt hT1.own1 hj).1
  obtain ⟨hK3,hbk3⟩:=kr_grown (R:=R) hBw1 hB3 hgr hob
  have h73:=h71.same (hbk3 R h.hR) hK3.size
  obtain ⟨f3,hT3⟩:=hT1.elem hB3 ((s.op.length:Int) + 1) (p:Int) nm hown hgr hbk
  obtain ⟨p3,c3,hv3⟩:=own_sl hown
  rw [hexl] at hv3
  subst hv3
  rw [h6] at hrun
  have hKf:Kr R bot w (w3.setCell ⟨R,6,none⟩ (.slice p3 (s.es.length + 1) c3)):=((Kr.mk (B:=bot) (R:=R) (w:=w) (w':=w1) hK.os hK.tape hK.output hK.size hK.block).trans hK3).trans (Kr.set R bot 6 _ _)
  have k6:w1.cell? ⟨R,6,none⟩ = some (.slice pe s.es.length ce):=(h71.c 6 (by decide)).trans (by rw [up7_ne _ _ (by decide),h6])
  have k1:w1.cell? ⟨R,1,none⟩ = some (.string nm):=(h71.c 1 (by decide)).trans (by rw [up7_ne _ _ (by decide),h1])
  have k3:w1.cell? ⟨R,3,none⟩ = some (.int .i64 (p:Int)):=(h71.c 3 (by decide)).trans (by rw [up7_ne _ _ (by decide),h3])
  have kD:=(depth_same R (up7 v 5 (.slice p2 (s.op.length + 1) c2)) p2 (s.op.length + 1) c2 w1.drew ⟨h71.c,h71.fz,h71.lt⟩ (up7_same _ _ _)).mono (R':=fun e w''=>∃ u,e = .returned u ∧ (u = .int .i64 ((s.op.length:Int) + 1) ∧ w'' = w1.drew)) fun e w'' q=>⟨_,q.1,by simp,q.2⟩
  refine ⟨_,rfl,rfl,w3,p3,c3,k6,k1,k3,(hB3.cell (p:=⟨R,6,none⟩) h71.lt).trans k6,(hB3.cell (p:=⟨R,1,none⟩) h71.lt).trans k1,(hB3.cell (p:=⟨R,3,none⟩) h71.lt).trans k3,kD,(h73.c 6 (by decide)).trans (by rw [up7_ne _ _ (by decide),h6]),h73.fz 6,(h73.c 1 (by decide)).trans (by rw [up7_ne _ _ (by decide),h1]),(h73.c 3 (by decide)).trans (by rw [up7_ne _ _ (by decide),h3]),hrun,rfl,hKf,up7 (up7 v 5 (.slice p2 (s.op.length + 1) c2)) 6 (.slice p3 (s.es.length + 1) c3),fun o ho=>by rw [up7_ne _ _ (by omega),up7_ne _ _ (by omega)],?_,by rw [up7_ne _ _ (by omega),up7_ne _ _ (by omega)]⟩
  refine Rdr.opened (f:=f3) nm p (h73.set 6 _) h.hR (Nat.le_trans hBw1 (Nat.le_trans hK3.size (by simp [World.setCell]))) h.ok hs he hok' ?_
  rw [up7_same,up7_ne _ _ (by omega),up7_same]
  exact hT3.setR h.hR
 have e6:=h.r7.c 6 (by decide)
 rw [h6] at e6
 have z1:((s.op.length:Int) == 0) = true → ¬ (0:Int) < (s.es.length:Int):=fun hz hp=>c1 ⟨List.eq_nil_of_length_eq_zero (by have:=beq_iff_eq.1 hz;omega),fun e0=>by rw [e0] at hp;simp at hp⟩
 have z2:((s.op.length:Int) == 16) = false:=beq_eq_false_iff_ne.2 (by omega)
 have z3:((s.es.length:Int) == 20000) = false:=beq_eq_false_iff_ne.2 (by omega)
 have z2':¬ (s.op.length:Int) = 16:=by omega
 have z3':¬ (s.es.length:Int) = 20000:=by omega
 clear hT hs he hok' h1 h5 h6 hsl hexl c1 c2 c3
 by_cases hz:s.op.length = 0
 ·have y1:(s.op.length:Int) = 0:=by omega
  have y2:((s.op.length:Int) == 0) = true:=beq_iff_eq.2 y1
  have y3:=z1 y2
  clear hz z1 y1
  go_enter Tryz.func43,Tryz.ntmps43
  go_wp2_with (go_at_call 68;refine cD.mono ?_;rintro _ w' ⟨rfl,hw'⟩;replace hw':=hw'.symm;subst hw')
  clear y2 y3 z2 z3 z2' z3'
  go_region_law (refine xstep2 ?_ _ (.tmp 4) (.tmp 9) #[72,3] ?_ ent_push _ _ ?_ ?_ _ cP ?_;rfl;rfl;rfl;rfl;rintro _ w1 ⟨rfl,w3,p3,c3,k6,k1,k3,j6,j1,j3,kD,x6,g6,x1,x3,hrun,HX⟩;clear cP)
  go_wp2_with fail
  replace HX:=Hid.mkT HX
  have y1:(w3.setCell ⟨R,6,none⟩ (.slice p3 (s.es.length + 1) c3)).cell? ⟨R,1,none⟩ = some (.string nm):=(World.cell?_setCell_other w3 _ _ _ (fun e=>by injection e with _ e2;omega)).trans x1
  have y3:(w3.setCell ⟨R,6,none⟩ (.slice p3 (s.es.length + 1) c3)).cell? ⟨R,3,none⟩ = some (.int .i64 (p:Int)):=(World.cell?_setCell_other w3 _ _ _ (fun e=>by injection e with _ e2;omega)).trans x3
  clear cD h3 h hol hel e6
  refine wp_region_held_drew (S:=fun w'=>w'.cell? ⟨R,1,none⟩ = some (.string nm) ∧ w'.cell? ⟨R,3,none⟩ = some (.int .i64 (p:Int))) (by kernel_rfl) ⟨k1,k3⟩ (fun hHeld=>?_)
  refine tkH 0 rfl (by kernel_rfl) (fun _ _ _ h=>h) (by assumption) (by intro w hSw;(try dsimp only at hSw);go_simp <;> with_reducible rfl) ?_
  try simp only [pts]
  refine tkH 1 rfl (by kernel_rfl) (fun _ _ _ h=>h) (by assumption) (by intro w hSw;(try dsimp only at hSw);go_simp <;> with_reducible rfl) ?_
  try simp only [pts]
  refine tkH 2 rfl (by kernel_rfl) (fun _ _ _ h=>h) (by assumption) (by intro w hSw;(try dsimp only at hSw);go_simp <;> with_reducible rfl) ?_
  try simp only [pts]
  refine tkH 3 rfl (by kernel_rfl) (fun _ _ _ h=>h) (by assumption) (by intro w hSw;(try dsimp only at hSw);go_simp <;> with_reducible rfl) ?_
  try simp only [pts]
  refine tkH 5 rfl (by kernel_rfl) (fun _ _ _ h=>h) (by assumption) (by intro w hSw;(try dsimp only at hSw);go_simp <;> with_reducible rfl) ?_
  try simp only [pts]
  refine tkH 6 rfl (by kernel_rfl) (fun _ _ _ h=>h) (by assumption) (by intro w hSw;(try dsimp only at hSw);go_simp <;> with_reducible rfl) ?_
  try simp only [pts]
  refine tkH 7 rfl (by kernel_rfl) (fun _ _ _ h=>h) (by assumption) (by intro w hSw;(try dsimp only at hSw);go_simp <;> with_reducible rfl) ?_
  try simp only [pts]
  refine tkH 9 rfl (by kernel_rfl) (fun _ _ _ h=>h) (by assumption) (by intro w hSw;(try dsimp only at hSw);go_simp <;> with_reducible rfl) ?_
  try simp only [pts]
  refine tkH 10 rfl (by kernel_rfl) (fun _ _ _ h=>h) (by assumption) (by intro w hSw;(try dsimp only at hSw);go_simp <;> with_reducible rfl) ?_
  try simp only [pts]
  refine tkH 11 rfl (by kernel_rfl) (fun _ _ _ h=>h) (by assumption) (by intro w hSw;(try dsimp only at hSw);go_simp <;> with_reducible rfl) ?_
  try simp only [pts]
  refine tkH 12 rfl (by kernel_rfl) (fun _ _ _ h=>h) (by assumption) (by intro w hSw;(try dsimp only at hSw);go_simp <;> with_reducible rfl) ?_
  try simp only [pts]
  refine tkH 13 rfl (by kernel_rfl) (fun _ _ _ h=>h) (by assumption) (by intro w hSw;(try dsimp only at hSw);go_simp <;> with_reducible rfl) ?_
  try simp only [pts]
  refine tkH 14 rfl (by kernel_rfl) (fun _ _ _ h=>h) (by assumption) (by intro w hSw;(try dsimp only at hSw);go_simp <;> with_reducible rfl) ?_
  try simp only [pts]
  refine tkH 15 rfl (by kernel_rfl) (fun _ _ _ h=>h) (by assumption) (by intro w hSw;(try dsimp only at hSw);go_simp <;> with_reducible rfl) ?_
  try simp only [pts]
  refine tkH 16 rfl (by kernel_rfl) (fun _ _ _ h=>h) (by assumption) (by intro w hSw;(try dsimp only at hSw);go_simp <;> with_reducible rfl) ?_
  try simp only [pts]
  refine tkH 17 rfl (by kernel_rfl) (fun _ _ _ h=>h) (by assumption) (by intro w hSw;(try dsimp only at hSw);go_simp <;> with_reducible rfl) ?_
  try simp only [pts]
  refine tkH 18 rfl (by kernel_rfl) (fun _ _ _ h=>h) (by assumption) (by intro w hSw;(try dsimp only at hSw);go_simp <;> with_reducible rfl) ?_
  try simp only [pts]
  refine tkH 19 rfl (by kernel_rfl) (fun _ _ _ h=>h) (by assumption) (by intro w hSw;(try dsimp only at hSw);go_simp <;> with_reducible rfl) ?_
  try simp only [pts]
  refine tkH 20 rfl (by kernel_rfl) (fun _ _ _ h=>h) (by assumption) (by intro w hSw;(try dsimp only at hSw);go_simp <;> with_reducible rfl) ?_
  try simp only [pts]
  refine tkH 21 rfl (by kernel_rfl) (fun _ _ _ h=>h) (by assumption) (by intro w hSw;(try dsimp only at hSw);go_simp <;> with_reducible rfl) ?_
  try simp only [pts]
  refine tkH 22 rfl (by kernel_rfl) (fun _ _ _ h=>h) (by assumption) (by intro w hSw;(try dsimp only at hSw);go_simp <;> with_reducible rfl) ?_
  try simp only [pts]
  refine wpAnyH_ready (rs:=[4,8]) (by kernel_rfl) (by simp) (arH rfl (fun K hK=>?_) (arH rfl (fun K hK=>?_) .nil))
  ·go_simp
   refine hK.out _ _ (by assumption) (fun hHeld=>?_)
   clear hK K
   try simp only [pts]
   refine wpAnyH_ready (rs:=[8]) (by kernel_rfl) (by simp) (arH rfl (fun K hK=>?_) .nil)
   refine xstep1 ?_ _ (.tmp 18) #[72] ?_ ent_depth _ ?_ _ kD ?_
   ·rfl
   ·rfl
   ·rfl
   rintro _ _ ⟨rfl,rfl⟩
   refine hK.out _ _ (by assumption) (fun hHeld=>?_)
   clear hK K
   try simp only [pts]
   refine tkH 23 rfl (by kernel_rfl) (fun _ _ _ h=>h) (by assumption) (by intro w hSw;(try dsimp only at hSw);go_simp <;> with_reducible rfl) ?_
   try simp only [pts]
   refine wpAnyH_ready (rs:=[24]) (by kernel_rfl) (by simp) (arH rfl (fun K hK=>?_) .nil)
   go_simp
   refine hK.out _ _ ⟨j1,j3⟩ (fun hHeld=>?_)
   clear hK K
   try simp only [pts]
   refine wpAnyH_ready (rs:=[25]) (by kernel_rfl) (by simp) (arH rfl (fun K hK=>?_) .nil)
   refine step_append_ex ?_ (.tmp 15) (.tmp 35) _ _ ?_ _ _ ?_ ?_ (fun a b=>a = _ ∧ b = w3) ⟨_,w3,hrun,rfl,rfl⟩ ?_
   ·rfl
   ·rfl
   ·rfl
   ·rfl
   rintro _ _ ⟨rfl,rfl⟩
   refine hK.out _ _ ⟨x1,x3⟩ (fun hHeld=>?_)
   clear hK K
   try simp only [pts]
   refine tkH 26 rfl (by kernel_rfl) (fun _ _ _ h=>h) (by assumption) (by intro w hSw;(try dsimp only at hSw);go_simp <;> with_reducible rfl) ?_
   try simp only [pts]
   refine tkH 27 rfl (by kernel_rfl) (fun _ _ _ h=>h) (by assumption) (by intro w hSw;(try dsimp only at hSw);go_simp <;> with_reducible rfl) ?_
   try simp only [pts]
   refine wpAnyH_ready (rs:=[28]) (by kernel_rfl) (by simp) (arH rfl (fun K hK=>?_) .nil)
   go_simp
   refine hK.out _ _ ⟨y1,y3⟩ (fun hHeld=>?_)
   clear hK K
   try simp only [pts]
   refine wpAnyH_done (by kernel_rfl) ?_ _
   go_wp2_with fail
   go_end0
   exact HX.out
  ·refine xstep1 ?_ _ (.tmp 18) #[72] ?_ ent_depth _ ?_ _ kD ?_
   ·rfl
   ·rfl
   ·rfl
   rintro _ _ ⟨rfl,rfl⟩
   refine hK.out _ _ (by assumption) (fun hHeld=>?_)
   clear hK K
   try simp only [pts]
   refine tkH 23 rfl (by kernel_rfl) (fun _ _ _ h=>h) (by assumption) (by intro w hSw;(try dsimp only at hSw);go_simp <;> with_reducible rfl) ?_
   try simp only [pts]
   refine wpAnyH_ready (rs:=[4,24]) (by kernel_rfl) (by simp) (arH rfl (fun K hK=>?_) (arH rfl (fun K hK=>?_) .nil))
   ·go_simp
    refine hK.out _ _ (by assumption) (fun hHeld=>?_)
    clear hK K
    try simp only [pts]
    refine wpAnyH_ready (rs:=[24]) (by kernel_rfl) (by simp) (arH rfl (fun K hK=>?_) .nil)
    go_simp
    refine hK.out _ _ ⟨j1,j3⟩ (fun hHeld=>?_)
    clear hK K
    try simp only [pts]
    refine wpAnyH_ready (rs:=[25]) (by kernel_rfl) (by simp) (arH rfl (fun K hK=>?_) .nil)
    refine step_append_ex ?_ (.tmp 15) (.tmp 35) _ _ ?_ _ _ ?_ ?_ (fun a b=>a = _ ∧ b = w3) ⟨_,w3,hrun,rfl,rfl⟩ ?_
    ·rfl
    ·rfl
    ·rfl
    ·rfl
    rintro _ _ ⟨rfl,rfl⟩
    refine hK.out _ _ ⟨x1,x3⟩ (fun hHeld=>?_)
    clear hK K
    try simp only [pts]
    refine tkH 26 rfl (by kernel_rfl) (fun _ _ _ h=>h) (by assumption) (by intro w hSw;(try dsimp only at hSw);go_simp <;> with_reducible rfl) ?_
    try simp only [pts]
    refine tkH 27 rfl (by kernel_rfl) (fun _ _ _ h=>h) (by assumption) (by intro w hSw;(try dsimp only at hSw);go_simp <;> with_reducible rfl) ?_
    try simp only [pts]
    refine wpAnyH_ready (rs:=[28]) (by kernel_rfl) (by simp) (arH rfl (fun K hK=>?_) .nil)
    go_simp
    refine hK.out _ _ ⟨y1,y3⟩ (fun hHeld=>?_)
    clear hK K
    try simp only [pts]
    refine wpAnyH_done (by kernel_rfl) ?_ _
    go_wp2_with fail
    go_end0
    exact HX.out
   ·go_simp
    refine hK.out _ _ ⟨j1,j3⟩ (fun hHeld=>?_)
    clear hK K
    try simp only [pts]
    refine wpAnyH_ready (rs:=[4]) (by kernel_rfl) (by simp) (arH rfl (fun K hK=>?_) .nil)
    go_simp
    refine hK.out _ _ (by assumption) (fun hHeld=>?_)
    clear hK K
    try simp only [pts]
    refine wpAnyH_ready (rs:=[25]) (by kernel_rfl) (by simp) (arH rfl (fun K hK=>?_) .nil)
    refine step_append_ex ?_ (.tmp 15) (.tmp 35) _ _ ?_ _ _ ?_ ?_ (fun a b=>a = _ ∧ b = w3) ⟨_,w3,hrun,rfl,rfl⟩ ?_
    ·rfl
    ·rfl
    ·rfl
    ·rfl
    rintro _ _ ⟨rfl,rfl⟩
    refine hK.out _ _ ⟨x1,x3⟩ (fun hHeld=>?_)
    clear hK K
    try simp only [pts]
    refine tkH 26 rfl (by kernel_rfl) (fun _ _ _ h=>h) (by assumption) (by intro w hSw;(try dsimp only at hSw);go_simp <;> with_reducible rfl) ?_
    try simp only [pts]
    refine tkH 27 rfl (by kernel_rfl) (fun _ _ _ h=>h) (by assumption) (by intro w hSw;(try dsimp only at hSw);go_simp <;> with_reducible rfl) ?_
    try simp only [pts]
    refine wpAnyH_ready (rs:=[28]) (by kernel_rfl) (by simp) (arH rfl (fun K hK=>?_) .nil)
    go_simp
    refine hK.out _ _ ⟨y1,y3⟩ (fun hHeld=>?_)
    clear hK K
    try simp only [pts]
    refine wpAnyH_done (by kernel_rfl) ?_ _
    go_wp2_with fail
    go_end0
    exact HX.out
 ·have y1:¬ (s.op.length:Int) = 0:=by omega
  have y2:((s.op.length:Int) == 0) = false:=beq_eq_false_iff_ne.2 y1
  clear hz z1
  go_enter Tryz.func43,Tryz.ntmps43
  go_wp2_with (go_at_call 68;refine cD.mono ?_;rintro _ w' ⟨rfl,hw'⟩;replace hw':=hw'.symm;subst hw')
  clear y1 y2 z2 z3 z2' z3'
  go_region_law (refine xstep2 ?_ _ (.tmp 4) (.tmp 9) #[72,3] ?_ ent_push _ _ ?_ ?_ _ cP ?_;rfl;rfl;rfl;rfl;rintro _ w1 ⟨rfl,w3,p3,c3,k6,k1,k3,j6,j1,j3,kD,x6,g6,x1,x3,hrun,HX⟩;clear cP)
  go_wp2_with fail
  replace HX:=Hid.mkT HX
  have y1:(w3.setCell ⟨R,6,none⟩ (.slice p3 (s.es.length + 1) c3)).cell? ⟨R,1,none⟩ = some (.string nm):=(World.cell?_setCell_other w3 _ _ _ (fun e=>by injection e with _ e2;omega)).trans x1
  have y3:(w3.setCell ⟨R,6,none⟩ (.slice p3 (s.es.length + 1) c3)).cell? ⟨R,3,none⟩ = some (.int .i64 (p:Int)):=(World.cell?_setCell_other w3 _ _ _ (fun e=>by injection e with _ e2;omega)).trans x3
  clear cD h3 h hol hel e6
  refine wp_region_held_drew (S:=fun w'=>w'.cell? ⟨R,1,none⟩ = some (.string nm) ∧ w'.cell? ⟨R,3,none⟩ = some (.int .i64 (p:Int))) (by kernel_rfl) ⟨k1,k3⟩ (fun hHeld=>?_)
  refine tkH 0 rfl (by kernel_rfl) (fun _ _ _ h=>h) (by assumption) (by intro w hSw;(try dsimp only at hSw);go_simp <;> with_reducible rfl) ?_
  try simp only [pts]
  refine tkH 1 rfl (by kernel_rfl) (fun _ _ _ h=>h) (by assumption) (by intro w hSw;(try dsimp only at hSw);go_simp <;> with_reducible rfl) ?_
  try simp only [pts]
  refine tkH 2 rfl (by kernel_rfl) (fun _ _ _ h=>h) (by assumption) (by intro w hSw;(try dsimp only at hSw);go_simp <;> with_reducible rfl) ?_
  try simp only [pts]
  refine tkH 3 rfl (by kernel_rfl) (fun _ _ _ h=>h) (by assumption) (by intro w hSw;(try dsimp only at hSw);go_simp <;> with_reducible rfl) ?_
  try simp only [pts]
  refine tkH 5 rfl (by kernel_rfl) (fun _ _ _ h=>h) (by assumption) (by intro w hSw;(try dsimp only at hSw);go_simp <;> with_reducible rfl) ?_
  try simp only [pts]
  refine tkH 6 rfl (by kernel_rfl) (fun _ _ _ h=>h) (by assumption) (by intro w hSw;(try dsimp only at hSw);go_simp <;> with_reducible rfl) ?_
  try simp only [pts]
  refine tkH 7 rfl (by kernel_rfl) (fun _ _ _ h=>h) (by assumption) (by intro w hSw;(try dsimp only at hSw);go_simp <;> with_reducible rfl) ?_
  try simp only [pts]
  refine tkH 9 rfl (by kernel_rfl) (fun _ _ _ h=>h) (by assumption) (by intro w hSw;(try dsimp only at hSw);go_simp <;> with_reducible rfl) ?_
  try simp only [pts]
  refine tkH 10 rfl (by kernel_rfl) (fun _ _ _ h=>h) (by assumption) (by intro w hSw;(try dsimp only at hSw);go_simp <;> with_reducible rfl) ?_
  try simp only [pts]
  refine tkH 11 rfl (by kernel_rfl) (fun _ _ _ h=>h) (by assumption) (by intro w hSw;(try dsimp only at hSw);go_simp <;> with_reducible rfl) ?_
  try simp only [pts]
  refine tkH 12 rfl (by kernel_rfl) (fun _ _ _ h=>h) (by assumption) (by intro w hSw;(try dsimp only at hSw);go_simp <;> with_reducible rfl) ?_
  try simp only [pts]
  refine tkH 13 rfl (by kernel_rfl) (fun _ _ _ h=>h) (by assumption) (by intro w hSw;(try dsimp only at hSw);go_simp <;> with_reducible rfl) ?_
  try simp only [pts]
  refine tkH 14 rfl (by kernel_rfl) (fun _ _ _ h=>h) (by assumption) (by intro w hSw;(try dsimp only at hSw);go_simp <;> with_reducible rfl) ?_
  try simp only [pts]
  refine tkH 15 rfl (by kernel_rfl) (fun _ _ _ h=>h) (by assumption) (by intro w hSw;(try dsimp only at hSw);go_simp <;> with_reducible rfl) ?_
  try simp only [pts]
  refine tkH 16 rfl (by kernel_rfl) (fun _ _ _ h=>h) (by assumption) (by intro w hSw;(try dsimp only at hSw);go_simp <;> with_reducible rfl) ?_
  try simp only [pts]
  refine tkH 17 rfl (by kernel_rfl) (fun _ _ _ h=>h) (by assumption) (by intro w hSw;(try dsimp only at hSw);go_simp <;> with_reducible rfl) ?_
  try simp only [pts]
  refine tkH 18 rfl (by kernel_rfl) (fun _ _ _ h=>h) (by assumption) (by intro w hSw;(try dsimp only at hSw);go_simp <;> with_reducible rfl) ?_
  try simp only [pts]
  refine tkH 19 rfl (by kernel_rfl) (fun _ _ _ h=>h) (by assumption) (by intro w hSw;(try dsimp only at hSw);go_simp <;> with_reducible rfl) ?_
  try simp only [pts]
  refine tkH 20 rfl (by kernel_rfl) (fun _ _ _ h=>h) (by assumption) (by intro w hSw;(try dsimp only at hSw);go_simp <;> with_reducible rfl) ?_
  try simp only [pts]
  refine tkH 21 rfl (by kernel_rfl) (fun _ _ _ h=>h) (by assumption) (by intro w hSw;(try dsimp only at hSw);go_simp <;> with_reducible rfl) ?_
  try simp only [pts]
  refine tkH 22 rfl (by kernel_rfl) (fun _ _ _ h=>h) (by assumption) (by intro w hSw;(try dsimp only at hSw);go_simp <;> with_reducible rfl) ?_
  try simp only [pts]
  refine wpAnyH_ready (rs:=[4,8]) (by kernel_rfl) (by simp) (arH rfl (fun K hK=>?_) (arH rfl (fun K hK=>?_) .nil))
  ·go_simp
   refine hK.out _ _ (by assumption) (fun hHeld=>?_)
   clear hK K
   try simp only [pts]
   refine wpAnyH_ready (rs:=[8]) (by kernel_rfl) (by simp) (arH rfl (fun K hK=>?_) .nil)
   refine xstep1 ?_ _ (.tmp 18) #[72] ?_ ent_depth _ ?_ _ kD ?_
   ·rfl
   ·rfl
   ·rfl
   rintro _ _ ⟨rfl,rfl⟩
   refine hK.out _ _ (by assumption) (fun hHeld=>?_)
   clear hK K
   try simp only [pts]
   refine tkH 23 rfl (by kernel_rfl) (fun _ _ _ h=>h) (by assumption) (by intro w hSw;(try dsimp only at hSw);go_simp <;> with_reducible rfl) ?_
   try simp only [pts]
   refine wpAnyH_ready (rs:=[24]) (by kernel_rfl) (by simp) (arH rfl (fun K hK=>?_) .nil)
   go_simp
   refine hK.out _ _ ⟨j1,j3⟩ (fun hHeld=>?_)
   clear hK K
   try simp only [pts]
   refine wpAnyH_ready (rs:=[25]) (by kernel_rfl) (by simp) (arH rfl (fun K hK=>?_) .nil)
   refine step_append_ex ?_ (.tmp 15) (.tmp 35) _ _ ?_ _ _ ?_ ?_ (fun a b=>a = _ ∧ b = w3) ⟨_,w3,hrun,rfl,rfl⟩ ?_
   ·rfl
   ·rfl
   ·rfl
   ·rfl
   rintro _ _ ⟨rfl,rfl⟩
   refine hK.out _ _ ⟨x1,x3⟩ (fun hHeld=>?_)
   clear hK K
   try simp only [pts]
   refine tkH 26 rfl (by kernel_rfl) (fun _ _ _ h=>h) (by assumption) (by intro w hSw;(try dsimp only at hSw);go_simp <;> with_reducible rfl) ?_
   try simp only [pts]
   refine tkH 27 rfl (by kernel_rfl) (fun _ _ _ h=>h) (by assumption) (by intro w hSw;(try dsimp only at hSw);go_simp <;> with_reducible rfl) ?_
   try simp only [pts]
   refine wpAnyH_ready (rs:=[28]) (by kernel_rfl) (by simp) (arH rfl (fun K hK=>?_) .nil)
   go_simp
   refine hK.out _ _ ⟨y1,y3⟩ (fun hHeld=>?_)
   clear hK K
   try simp only [pts]
   refine wpAnyH_done (by kernel_rfl) ?_ _
   go_wp2_with fail
   go_end0
   exact HX.out
  ·refine xstep1 ?_ _ (.tmp 18) #[72] ?_ ent_depth _ ?_ _ kD ?_
   ·rfl
   ·rfl
   ·rfl
   rintro _ _ ⟨rfl,rfl⟩
   refine hK.out _ _ (by assumption) (fun hHeld=>?_)
   clear hK K
   try simp only [pts]
   refine tkH 23 rfl (by kernel_rfl) (fun _ _ _ h=>h) (by assumption) (by intro w hSw;(try dsimp only at hSw);go_simp <;> with_reducible rfl) ?_
   try simp only [pts]
   refine wpAnyH_ready (rs:=[4,24]) (by kernel_rfl) (by simp) (arH rfl (fun K hK=>?_) (arH rfl (fun K hK=>?_) .nil))
   ·go_simp
    refine hK.out _ _ (by assumption) (fun hHeld=>?_)
    clear hK K
    try simp only [pts]
    refine wpAnyH_ready (rs:=[24]) (by kernel_rfl) (by simp) (arH rfl (fun K hK=>?_) .nil)
    go_simp
    refine hK.out _ _ ⟨j1,j3⟩ (fun hHeld=>?_)
    clear hK K
    try simp only [pts]
    refine wpAnyH_ready (rs:=[25]) (by kernel_rfl) (by simp) (arH rfl (fun K hK=>?_) .nil)
    refine step_append_ex ?_ (.tmp 15) (.tmp 35) _ _ ?_ _ _ ?_ ?_ (fun a b=>a = _ ∧ b = w3) ⟨_,w3,hrun,rfl,rfl⟩ ?_
    ·rfl
    ·rfl
    ·rfl
    ·rfl
    rintro _ _ ⟨rfl,rfl⟩
    refine hK.out _ _ ⟨x1,x3⟩ (fun hHeld=>?_)
    clear hK K
    try simp only [pts]
    refine tkH 26 rfl (by kernel_rfl) (fun _ _ _ h=>h) (by assumption) (by intro w hSw;(try dsimp only at hSw);go_simp <;> with_reducible rfl) ?_
    try simp only [pts]
    refine tkH 27 rfl (by kernel_rfl) (fun _ _ _ h=>h) (by assumption) (by intro w hSw;(try dsimp only at hSw);go_simp <;> with_reducible rfl) ?_
    try simp only [pts]
    refine wpAnyH_ready (rs:=[28]) (by kernel_rfl) (by simp) (arH rfl (fun K hK=>?_) .nil)
    go_simp
    refine hK.out _ _ ⟨y1,y3⟩ (fun hHeld=>?_)
    clear hK K
    try simp only [pts]
    refine wpAnyH_done (by kernel_rfl) ?_ _
    go_wp2_with fail
    go_end0
    exact HX.out
   ·go_simp
    refine hK.out _ _ ⟨j1,j3⟩ (fun hHeld=>?_)
    clear hK K
    try simp only [pts]
    refine wpAnyH_ready (rs:=[4]) (by kernel_rfl) (by simp) (arH rfl (fun K hK=>?_) .nil)
    go_simp
    refine hK.out _ _ (by assumption) (fun hHeld=>?_)
    clear hK K
    try simp only [pts]
    refine wpAnyH_ready (rs:=[25]) (by kernel_rfl) (by simp) (arH rfl (fun K hK=>?_) .nil)
    refine step_append_ex ?_ (.tmp 15) (.tmp 35) _ _ ?_ _ _ ?_ ?_ (fun a b=>a = _ ∧ b = w3) ⟨_,w3,hrun,rfl,rfl⟩ ?_
    ·rfl
    ·rfl
    ·rfl
    ·rfl
    rintro _ _ ⟨rfl,rfl⟩
    refine hK.out _ _ ⟨x1,x3⟩ (fun hHeld=>?_)
    clear hK K
    try simp only [pts]
    refine tkH 26 rfl (by kernel_rfl) (fun _ _ _ h=>h) (by assumption) (by intro w hSw;(try dsimp only at hSw);go_simp <;> with_reducible rfl) ?_
    try simp only [pts]
    refine tkH 27 rfl (by kernel_rfl) (fun _ _ _ h=>h) (by assumption) (by intro w hSw;(try dsimp only at hSw);go_simp <;> with_reducible rfl) ?_
    try simp only [pts]
    refine wpAnyH_ready (rs:=[28]) (by kernel_rfl) (by simp) (arH rfl (fun K hK=>?_) .nil)
    go_simp
    refine hK.out _ _ ⟨y1,y3⟩ (fun hHeld=>?_)
    clear hK K
    try simp only [pts]
    refine wpAnyH_done (by kernel_rfl) ?_ _
    go_wp2_with fail
    go_end0
    exact HX.out
theorem open_any (R bot:Nat) (v:Nat → Value) (s:PSt) (nm vl:ByteArray) (p:Nat) (bl:ByteArray → Bool) (w:World) (h:Rdr w R bot v s) (h1:v 1 = .string nm) (h3:v 3 = .int .i64 (p:Int)) :
  Calls Tryz.prog 43 #[.pointer (some ⟨R,0,none⟩)] w (TakePost R bot w v (takeT bl s ⟨0,nm,vl,p⟩)):=by
 obtain ⟨pa,ca,h5⟩:=h.sl
 obtain ⟨pe,ce,h6⟩:=h.el
 have cD:=depth_same R v _ _ _ w h.r7 h5
 have e6:=h.r7.c 6 (by decide)
 rw [h6] at e6
 have cF:=fun (er:Int)=>refuse_any R v er w h.r7
 have H:=fun er=>Hid.mkT (TakePost.refuse (bot:=bot) (m:=0) h.r7 er)
 have hz:takeT bl s ⟨0,nm,vl,p⟩ = (if s.op = [] ∧ s.es ≠ [] then .error 53 else if s.op.length = 16 then .error 50 else if s.es.length = 20000 then .error 54
   else .ok ⟨s.op ++ [s.es.length],s.es ++ [⟨(s.op.length:Int) + 1,nm,[],⟨#[]⟩,(p:Int)⟩]⟩):=rfl
 by_cases c1:s.op = [] ∧ s.es ≠ []
 ·rw [hz,if_pos c1]
  have z1:s.op.length = 0:=by rw [c1.1];rfl
  have z2:(0:Int) < (s.es.length:Int):=by have:=List.length_pos_iff.2 c1.2;omega
  have z3:(s.op.length:Int) = 0:=by omega
  have z4:((s.op.length:Int) == 0) = true:=beq_iff_eq.2 z3
  clear z1 c1 hz
  go_enter Tryz.func43,Tryz.ntmps43
  go_wp2_with (first
    | (go_at_call 68;refine cD.mono ?_;rintro _ w' ⟨rfl,hw'⟩;replace hw':=hw'.symm;subst hw')
    | (go_at_call 51;refine (cF 53).mono ?_;rintro _ _ ⟨rfl,rfl⟩))
  go_end0
  exact (H 53).out
 ·have hne:∀ n,n ≠ 0 → (s.op.length = n ∨ s.es.length = n) → ¬ s.op.length = 0:=fun n hn hx h0=>by
    rcases hx with hx | hx
    ·omega
    ·exact c1 ⟨List.eq_nil_of_length_eq_zero h0,fun e=>by rw [e] at hx;simp at hx;omega⟩
  by_cases c2:s.op.length = 16
  · rw [hz,if_neg c1,if_pos c2]
    have z1:(s.op.length:Int) = 16:=by omega
    have z2:((s.op.length:Int) == 0) = false:=beq_eq_false_iff_ne.2 (by omega)
    have z3:((s.op.length:Int) == 16) = true:=beq_iff_eq.2 z1
    clear hz hne c1 c2
    go_enter Tryz.func43,Tryz.ntmps43
    go_wp2_with (first
     | (go_at_call 68;refine cD.mono ?_;rintro _ w' ⟨rfl,hw'⟩;replace hw':=hw'.symm;subst hw')
     | (go_at_call 51;refine (cF 50).mono ?_;rintro _ _ ⟨rfl,rfl⟩))
    go_end0
    exact (H 50).out
  · by_cases c3:s.es.length = 20000
    ·rw [hz,if_neg c1,if_neg c2,if_pos c3]
     have z0:=hne 20000 (by decide) (.inr c3)
     have z1:¬ (s.op.length:Int) = 0:=by omega
     have z1':¬ (s.op.length:Int) = 16:=by omega
     have z2:((s.op.length:Int) == 0) = false:=beq_eq_false_iff_ne.2 z1
     have z3:((s.op.length:Int) == 16) = false:=beq_eq_false_iff_ne.2 z1'
     have z4:(s.es.length:Int) = 20000:=by omega
     have z5:((s.es.length:Int) == 20000) = true:=beq_iff_eq.2 z4
     clear hz hne c1 c2 c3 z0
     go_enter Tryz.func43,Tryz.ntmps43
     go_wp2_with (first
      | (go_at_call 68;refine cD.mono ?_;rintro _ w' ⟨rfl,hw'⟩;replace hw':=hw'.symm;subst hw')
      | (go_at_call 51;refine (cF 54).mono ?_;rintro _ _ ⟨rfl,rfl⟩))
     go_end0
     exact (H 54).out
    ·rw [hz,if_neg c1,if_neg c2,if_neg c3]
     exact open_yes R bot v s nm p w h h1 h3 c1 c2 c3 (takeT_ok (bl:=bl) (t:=⟨0,nm,vl,p⟩) (by rw [hz,if_neg c1,if_neg c2,if_neg c3]) h.ok)
structure Ls (W:World) (bot:Nat) (v:Nat → Value) (s:PSt) (i:Nat) (e:El) (f:Nat → Rw) (sx:List Opn) (o:Opn) (ex:List Elx) (x:Elx) (g c gE cE:Nat):Prop where
 h5:v 5 = .slice (some ⟨g,0,none⟩) (sx.length + 1) c
 h6:v 6 = .slice (some ⟨gE,0,none⟩) ex.length cE
 hc:sx.length + 1 ≤ c
 tr:TR W bot (v 5) (v 6) f (sx ++ [o]) ex
 hs:sx.map Opn.q = s.op.dropLast.map (opQ s.es)
 hq:o.q = (i,e.nm,e.tx)
 he:ex.map Elx.e = hide s.op s.es
 hx:ex[i]? = some x
 xe:x.e = hideE s.op i e
 ln:sx.length + 1 = s.op.length
 el:ex.length = s.es.length
theorem own_cap {W:World} {base:Nat} {e:TypeId} {size g n cap:Nat} {xs:List Value} (h:W.ownsRow base e size (.slice (some ⟨g,0,none⟩) n cap) n xs):n ≤ cap:=by
 rcases h.2 with ⟨e1,_⟩ | ⟨g',cap',cur,e1,hb,hg,hn,_⟩
 ·cases e1
 ·cases e1;exact hn
theorem Rdr.last {W:World} {R bot:Nat} {v:Nat → Value} {s:PSt} {i:Nat} (h:Rdr W R bot v s) (hi:s.op.getLast? = some i):∃ e,s.es[i]? = some e ∧ ∃ f sx o ex x g c gE cE,Ls W bot v s i e f sx o ex x g c gE cE:=by
 have hil:=h.ok.lt i (List.mem_of_getLast? hi)
 obtain ⟨e,he0⟩:∃ e,s.es[i]? = some e:=⟨s.es[i],List.getElem?_eq_getElem hil⟩
 obtain ⟨f,sx',ex,hT,hs,he⟩:=h.x
 have hsp:=last_split hi
 rw [hsp,List.map_append] at hs
 have hsl:sx'.length = s.op.dropLast.length + 1:=by have:=congrArg List.length hs;simpa using this
 have hexl:ex.length = s.es.length:=by have:=congrArg List.length he;simpa [hide_length] using this
 obtain ⟨sx,o,rfl⟩:∃ sx o,sx' = sx ++ [o]:=by
  rcases List.eq_nil_or_concat sx' with rfl | ⟨a,b,rfl⟩
  ·simp at hsl
  ·exact ⟨a,b,by simp⟩
 rw [List.map_append] at hs
 have hl2:(sx.map Opn.q).length = (s.op.dropLast.map (opQ s.es)).length:=by simpa using hsl
 obtain ⟨hs1,hs2⟩:=List.append_inj hs hl2
 obtain ⟨x,hx⟩:∃ x,ex[i]? = some x:=⟨ex[i]'(by omega),List.getElem?_eq_getElem (by omega)⟩
 obtain ⟨g,c,hv5⟩:=own_shape hT.own0 (by simp)
 obtain ⟨gE,cE,hv6⟩:=own_shape hT.own1 (show 0 < ex.length by omega)
 have h0:=hT.own0
 rw [hv5] at h0
 refine ⟨e,he0,f,sx,o,ex,x,g,c,gE,cE,?_,hv6,?_,hT,hs1,?_,he,hx,?_,?_,hexl⟩
 ·rw [hv5,List.length_append];rfl
 ·have:=own_cap h0
  rw [List.length_append,List.length_singleton] at this
  exact this
 ·simp only [List.map_cons,List.map_nil,List.cons.injEq,and_true] at hs2
  rw [hs2]
  unfold opQ
  rw [he0]
 ·have h1:(ex.map Elx.e)[i]? = some x.e:=by rw [List.getElem?_map,hx];rfl
  rw [he,hide_get he0] at h1
  exact (Option.some.inj h1).symm
 ·have:=congrArg List.length hsp
  rw [List.length_append,List.length_singleton] at this
  have h3:=hl2
  rw [List.length_map,List.length_map] at h3
  omega
theorem Ls.cells {W:World} {bot:Nat} {v:Nat → Value} {s:PSt} {i:Nat} {e:El} {f:Nat → Rw} {sx:List Opn} {o:Opn} {ex:List Elx} {x:Elx} {g c gE cE:Nat} (h:Ls W bot v s i e f sx o ex x g c gE cE) :
  (W.cell? ⟨g,sx.length * 3,none⟩ = some (.int .i64 (i:Int)) ∧ W.cell? ⟨g,sx.length * 3 + 1,none⟩ = some (.string e.nm) ∧ W.cell? ⟨g,sx.length * 3 + 2,none⟩ = some o.tv ∧ W.frozen? ⟨g,sx.length * 3 + 2,none⟩ = false) ∧
  (W.cell? ⟨gE,i * 5 + 2,none⟩ = some x.av ∧ W.frozen? ⟨gE,i * 5 + 2,none⟩ = false ∧ W.cell? ⟨gE,i * 5 + 3,none⟩ = some (.string x.e.tx) ∧ W.frozen? ⟨gE,i * 5 + 3,none⟩ = false) ∧ bot ≤ g ∧ g < W.heap.size ∧ bot ≤ gE ∧ gE < W.heap.size ∧ g ≠ gE:=by
 have h0:=h.tr.own0
 have h1:=h.tr.own1
 have hap:=h.tr.pf.apart 0 1 (by decide) g (by rw [h.tr.f0,h.h5];rfl)
 rw [h.tr.f1,h.h6] at hap
 rw [h.h5] at h0
 rw [h.h6] at h1
 rw [List.length_append,List.length_singleton] at h0
 have ho:(sx ++ [o])[sx.length]? = some o:=by rw [List.getElem?_append_right (Nat.le_refl _),Nat.sub_self];rfl
 have hq:=h.hq
 unfold Opn.q at hq
 simp only [Prod.mk.injEq] at hq
 have a0:=own_get h0 (o:=sx.length * 3 + 0) (flat_get opC 3 opC_len _ _ o ho 0 (by decide))
 have a1:=own_get h0 (o:=sx.length * 3 + 1) (flat_get opC 3 opC_len _ _ o ho 1 (by decide))
 have a2:=own_get h0 (o:=sx.length * 3 + 2) (flat_get opC 3 opC_len _ _ o ho 2 (by decide))
 have b2:=own_get h1 (o:=i * 5 + 2) (flat_get elC 5 elC_len _ _ x h.hx 2 (by decide))
 have b3:=own_get h1 (o:=i * 5 + 3) (flat_get elC 5 elC_len _ _ x h.hx 3 (by decide))
 refine ⟨⟨?_,?_,a2.1,a2.2.1⟩,⟨b2.1,b2.2.1,b3.1,b3.2.1⟩,a2.2.2.1,a2.2.2.2,b2.2.2.1,b2.2.2.2,fun e=>hap (by rw [e];rfl)⟩
 ·rw [← hq.1];exact a0.1
 ·rw [← hq.2.1];exact a1.1
theorem Rdr.same {W W':World} {R bot:Nat} {v:Nat → Value} {s:PSt} (h:Rdr W R bot v s) (hb:∀ k,k < W.heap.size → W'.heap[k]? = W.heap[k]?) (hs:W.heap.size ≤ W'.heap.size):Rdr W' R bot v s:=by
 obtain ⟨f,sx,ex,hT,h1,h2⟩:=h.x
 exact ⟨h.r7.same (hb R h.r7.lt) hs,h.hR,Nat.le_trans h.hB hs,h.ok,f,sx,ex,hT.same fun k _ hk=>hb k hk,h1,h2⟩
theorem Rdr.drewN {W:World} {R bot:Nat} {v:Nat → Value} {s:PSt} (h:Rdr W R bot v s) (n:Nat):Rdr (W.drewN n) R bot v s:=h.same (fun _ _=>rfl) (Nat.le_refl _)
theorem Rdr.below {W W':World} {R bot:Nat} {v:Nat → Value} {s:PSt} (h:Rdr W R bot v s) (hb:Below W.heap.size W W'):Rdr W' R bot v s:=h.same hb.block hb.size
theorem Kr.drew {R B:Nat} {w w':World} (h:Kr R B w w'):Kr R B w w'.drew:=⟨h.os,h.tape,h.output,h.size,h.block⟩
theorem shut_facts {w:World} {R bot:Nat} {v:Nat → Value} {s:PSt} {i:Nat} {e:El} {f:Nat → Rw} {sx:List Opn} {o:Opn} {ex:List Elx} {x:Elx} {g c gE cE:Nat} (h:Rdr w R bot v s) (hi:s.op.getLast? = some i) (he0:s.es[i]? = some e) (hL:Ls w bot v s i e f sx o ex x g c gE cE) :
  w.cell? ⟨R,6,none⟩ = some (.slice (some ⟨gE,0,none⟩) ex.length cE) ∧ w.cell? ⟨g,sx.length * 3,none⟩ = some (.int .i64 (i:Int)) ∧ w.cell? ⟨g,sx.length * 3 + 2,none⟩ = some o.tv ∧ (convert 59 9 o.tv).run Tryz.prog w.drew = .ok (.string e.tx) w.drew ∧ w.cell? ⟨gE,i * 5 + 3,none⟩ = some (.string x.e.tx) ∧ w.frozen? ⟨gE,i * 5 + 3,none⟩ = false ∧
  Calls Tryz.prog 72 #[.pointer (some ⟨R,0,none⟩)] (w.drew.setCell ⟨gE,i * 5 + 3,none⟩ (.string e.tx)) (fun r w'=>r = .returned (.tuple #[]) ∧ TakePost R bot w v (.ok ⟨s.op.dropLast,s.es⟩) r w'):=by
 obtain ⟨⟨a0,a1,a2,_⟩,⟨b2,_,b3,b3f⟩,hg,_,hgE,hgEl,_⟩:=hL.cells
 have hc6:=h.r7.c 6 (by decide)
 rw [hL.h6] at hc6
 have htx:o.tx = e.tx:=by have:=hL.hq;unfold Opn.q at this;simp only [Prod.mk.injEq] at this;exact this.2.2
 have hon:(sx ++ [o])[sx.length]? = some o:=by rw [List.getElem?_append_right (Nat.le_refl _),Nat.sub_self];rfl
 have hbuf:=hL.tr.ownT hon
 have hcv:(convert 59 9 o.tv).run Tryz.prog w.drew = .ok (.string (sOf (lOf o.tx))) w.drew:=(hbuf.below ((Below.refl _ w).drew)).conv
 rw [htx,sOf_lOf] at hcv
 refine ⟨hc6,a0,a2,hcv,b3,b3f,?_⟩
 have hRE:R ≠ gE:=by have:=h.hR;omega
 have h71:R7 (w.drew.setCell ⟨gE,i * 5 + 3,none⟩ (.string e.tx)) R v:=(h.r7.same (w':=w.drew) rfl (Nat.le_refl _)).same (Below.heap_setCell _ _ _ _ hRE) (by simp [World.setCell])
 have hTr:=hL.tr
 rw [hL.h6] at hTr
 obtain ⟨f1,hT1⟩:=(hTr.same (W':=w.drew) (fun _ _ _=>rfl)).text hL.hx e.tx
 rw [hL.h5] at hT1
 obtain ⟨f2,hT2⟩:=hT1.pop
 have hln:=hL.ln
 have hol:=h.ok.ol
 refine (pop_any R v g sx.length c _ h71 hL.h5 (by omega) hL.hc).mono fun r w' ⟨hr,hw⟩=>⟨hr,?_⟩
 subst hw
 refine ⟨hr,(((Kr.refl R bot w).drew.trans (Kr.far (.string e.tx) hgE)).drew).trans (Kr.set R bot 5 _ _),up7 v 5 (.slice (some ⟨g,0,none⟩) sx.length c),fun q hq=>up7_ne _ _ (by omega),?_,up7_ne _ _ (by omega)⟩
 refine ⟨(h71.same (w':=(w.drew.setCell ⟨gE,i * 5 + 3,none⟩ (.string e.tx)).drew) rfl (Nat.le_refl _)).set 5 _,h.hR,by have:=h.hB;simpa [World.setCell] using this,takeT_ok (bl:=fun _=>true) (t:=⟨3,⟨#[]⟩,⟨#[]⟩,0⟩) rfl h.ok,f2,sx,ex.set i ⟨{ x.e with tx:=e.tx },x.av⟩,?_,hL.hs,?_⟩
 ·rw [up7_same,up7_ne _ _ (by omega),hL.h6]
  exact (hT2.same (W':=(w.drew.setCell ⟨gE,i * 5 + 3,none⟩ (.string e.tx)).drew) (fun _ _ _=>rfl)).setR h.hR
 ·have hxe:({ x.e with tx:=e.tx }:El) = e:=by
   rw [hL.xe]
   unfold hideE
   rw [if_pos (List.mem_of_getLast? hi)]
  rw [hxe]
  show List.map Elx.e (ex.set i _) = hide s.op.dropLast s.es
  rw [List.map_set,hL.he,hide_shut hi he0 h.ok.up]
theorem shut_any (R bot:Nat) (v:Nat → Value) (s:PSt) (i:Nat) (w:World) (h:Rdr w R bot v s) (hi:s.op.getLast? = some i) :
  Calls Tryz.prog 46 #[.pointer (some ⟨R,0,none⟩)] w (TakePost R bot w v (.ok ⟨s.op.dropLast,s.es⟩)):=by
 obtain ⟨e,he0,f,sx,o,ex,x,g,c,gE,cE,hL⟩:=h.last hi
 have cI:=innermost_any R v g sx.length c w h.r7 hL.h5 (by have:=hL.ln;have:=h.ok.ol;omega)
 have F:=fun m=>shut_facts (h.drewN m) hi he0 (⟨hL.h5,hL.h6,hL.hc,hL.tr.same (W':=w.drewN m) (fun _ _ _=>rfl),hL.hs,hL.hq,hL.he,hL.hx,hL.xe,hL.ln,hL.el⟩:Ls (w.drewN m) bot v s i e f sx o ex x g c gE cE)
 have HP:Hid (∀ m r w',TakePost R bot (w.drewN m) v (.ok ⟨s.op.dropLast,s.es⟩) r w' → TakePost R bot w v (.ok ⟨s.op.dropLast,s.es⟩) r w'):=Hid.mkT fun m r w' ⟨h0,h1,h2⟩=>⟨h0,⟨h1.os,h1.tape,h1.output,h1.size,h1.block⟩,h2⟩
 have hxl:i < ex.length:=(List.getElem?_eq_some_iff.1 hL.hx).1
 have hxi:(i:Int) < ex.length:=by omega
 obtain ⟨pt,ct,hpt⟩:=own_sl (hL.tr.ownT (j:=sx.length) (o:=o) (by rw [List.getElem?_append_right (Nat.le_refl _),Nat.sub_self];rfl))
 rw [hpt] at F
 generalize TakePost R bot w v (.ok ⟨s.op.dropLast,s.es⟩) = Post at HP ⊢
 generalize hS:(Except.ok (⟨s.op.dropLast,s.es⟩:PSt):Except Nat PSt) = Z at F HP
 clear h hL he0 hi hpt
 go_enter Tryz.func46,Tryz.ntmps46
 go_wp2_with (go_at_call 70;refine cI.mono ?_;rintro _ w0 ⟨rfl,m,hw0⟩;obtain ⟨k6,k0,k2,kc,k3,kf,cP⟩:=F m;have HP2:=Hid.mkT (HP.out m);rw [← hw0] at k6 k0 k2 kc k3 kf cP HP2;clear F HP hw0 cI)
 go_region_law (fail)
 all_goals
  go_wp2_with (go_at_call 72;refine cP.mono ?_;rintro _ w1 ⟨rfl,hX⟩)
  go_end0
  exact HP2.out _ _ hX
theorem TakePost.dn {R bot er:Nat} {w w':World} {v:Nat → Value} {r:Ending} (h:TakePost R bot w v (.error er) r w') (n:Nat):TakePost R bot w v (.error er) r (w'.drewN n):=by
 obtain ⟨h0,h1,v',h2,h3,h4⟩:=h
 exact ⟨h0,h1.drewN n,v',h2,h3.drewN n,h4⟩
theorem tEnd_any (R bot:Nat) (v:Nat → Value) (s:PSt) (nm vl:ByteArray) (p:Nat) (bl:ByteArray → Bool) (w:World) (h:Rdr w R bot v s) (h1:v 1 = .string nm) (h4:v 4 = .int .i64 0) :
  Calls Tryz.prog 47 #[.pointer (some ⟨R,0,none⟩)] w (TakePost R bot w v (takeT bl s ⟨4,nm,vl,p⟩)):=by
 have hz:takeT bl s ⟨4,nm,vl,p⟩ = (match s.op.getLast? with
   | none=>.error 51
   | some i=>match s.es[i]? with
     | none=>.error 51
     | some e=>if e.nm = nm then .ok ⟨s.op.dropLast,s.es⟩ else .error 51):=rfl
 rw [hz]
 have cRef:∀ W:World,R7 W R (up7 v 4 (.int .i64 51)) → Calls Tryz.prog 28 #[.pointer (some ⟨R,0,none⟩)] W fun e w'=>e = .returned (.bool true) ∧ ∃ n,w' = W.drewN n:=fun W h7=>by
  have:=refused_any R (up7 v 4 (.int .i64 51)) 51 W h7 (up7_same _ _ _)
  simpa using this
 cases hi:s.op.getLast? with
 | none =>
  have h0:s.op = []:=List.getLast?_eq_none_iff.1 hi
  obtain ⟨pa,ca,h5⟩:=h.sl
  rw [h0] at h5
  have cM:=mustPair_nil R v w h.r7 pa ca h5
  have H:=fun m=>Hid.mkT (TakePost.refuse (bot:=bot) (m:=m) h.r7 51)
  have H7:=fun m=>(h.r7.drewN m).set 4 (.int .i64 51)
  dsimp only
  go_enter Tryz.func47,Tryz.ntmps47
  go_wp2_with (first
    | (go_at_call 73;refine cM.mono ?_;rintro _ _ ⟨rfl,m,rfl⟩)
    | (go_at_call 28;refine (cRef _ (H7 m)).mono ?_;rintro _ _ ⟨rfl,k,rfl⟩))
  go_end0
  exact TakePost.dn (H m).out k
 | some i =>
  obtain ⟨e,he0,f,sx,o,ex,x,g,c,gE,cE,hL⟩:=h.last hi
  dsimp only
  rw [he0]
  dsimp only
  have hn:sx.length ≤ 16:=by have:=hL.ln;have:=h.ok.ol;omega
  by_cases hne:e.nm = nm
  · rw [if_pos hne]
    subst hne
    have cM:=mustPair_yes R v w h.r7 e.nm h1 g sx.length c hL.h5 hn hL.cells.1.2.1
    have cRef0:∀ m,Calls Tryz.prog 28 #[.pointer (some ⟨R,0,none⟩)] (w.drewN m) fun e w'=>e = .returned (.bool false) ∧ ∃ n,w' = (w.drewN m).drewN n:=fun m=>by
      have:=refused_any R v 0 (w.drewN m) (h.r7.drewN m) h4
      simpa using this
    have cS:=fun m=>shut_any R bot v s i (w.drewN m) (h.drewN m) hi
    have HP:Hid (∀ m r w',TakePost R bot (w.drewN m) v (.ok ⟨s.op.dropLast,s.es⟩) r w' → TakePost R bot w v (.ok ⟨s.op.dropLast,s.es⟩) r w'):=Hid.mkT fun m r w' ⟨h0,h1,h2⟩=>⟨h0,⟨h1.os,h1.tape,h1.output,h1.size,h1.block⟩,h2⟩
    have HR:Hid (∀ m r w',TakePost R bot (w.drewN m) v (.ok ⟨s.op.dropLast,s.es⟩) r w' → r = .returned (.tuple #[])):=Hid.mkT fun m r w' h=>h.1
    clear h hL he0 hi h1 h4 cRef
    go_enter Tryz.func47,Tryz.ntmps47
    go_wp2_with (first
      | (go_at_call 73;refine cM.mono ?_;rintro _ _ ⟨rfl,m,rfl⟩)
      | (go_at_call 28;refine (cRef0 _).mono ?_;rintro _ _ ⟨rfl,k,rfl⟩)
      | (go_at_call 46;refine (cS (m + k)).mono ?_;intro r w3 hX;have hr:=HR.out _ _ _ hX;subst hr))
    go_end0
    exact HP.out _ _ _ hX
  · rw [if_neg hne]
    have cM:=mustPair_no R v w h.r7 nm e.nm h1 g sx.length c hL.h5 hn hL.cells.1.2.1 hne
    have H:=fun m=>Hid.mkT (TakePost.refuse (bot:=bot) (m:=m) h.r7 51)
    have H7:=fun m=>(h.r7.drewN m).set 4 (.int .i64 51)
    clear h hL he0 hi h1 h4 hne
    go_enter Tryz.func47,Tryz.ntmps47
    go_wp2_with (first
      | (go_at_call 73;refine cM.mono ?_;rintro _ _ ⟨rfl,m,rfl⟩)
      | (go_at_call 28;refine (cRef _ (H7 m)).mono ?_;rintro _ _ ⟨rfl,k,rfl⟩))
    go_end0
    exact TakePost.dn (H m).out k
end Go.Proofs.YtchfphakhmifmabGreatDoor

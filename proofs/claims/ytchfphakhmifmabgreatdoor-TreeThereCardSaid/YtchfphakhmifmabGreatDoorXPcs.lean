import Derived.Test.YtchfphakhmifmabGreatDoorXTk
import Derived.RangeFuncNested
import Derived.RangeFuncBound
import Derived.Shelf.RegionOpen
import Derived.OwnWalkIn
import Derived.LoopNIn
import Derived.LoopIn
namespace Go.Proofs.YtchfphakhmifmabGreatDoor
set_option maxRecDepth 1000000
set_option maxHeartbeats 16000000
open Go.ChangeShapes Go.WideShapes Go.ChangeAt Go.RowKit Go.Shelf Go.Lib
attribute [local go_sem] Oper.semAt_some
structure KR (R:Nat) (W W':World):Prop where
 rd:W'.heap[R]? = W.heap[R]?
 be:Below 7 W W'
theorem KR.trans {R:Nat} {a b c:World} (h:KR R a b) (k:KR R b c):KR R a c:=⟨k.rd.trans h.rd,h.be.trans k.be⟩
theorem RC.kr {w w':World} {R:Nat} {v:Nat → Value} (h:RC w R v) (k:KR R w w'):RC w' R v :=
 ⟨fun o ho=>by have:=h.c o ho;simp only [World.cell?,k.rd] at this ⊢;exact this,fun o=>by have:=h.fz o;simp only [World.frozen?,k.rd] at this ⊢;exact this,by
  have h1:w.heap[R]? = some (w.heap[R]'h.lt):=Array.getElem?_eq_getElem h.lt
  rw [← k.rd] at h1
  exact (Array.getElem?_eq_some_iff.1 h1).1⟩
theorem RS.kr {w w':World} {R:Nat} {s:ByteArray} {f:Option Nat} {a fe fa:Nat} (h:RS w R s f a fe fa) (k:KR R w w'):RS w' R s f a fe fa:=by
 obtain ⟨v,hC,h⟩:=h
 exact ⟨v,hC.kr k,h⟩
theorem RS.below {w w':World} {R:Nat} {s:ByteArray} {f:Option Nat} {a fe fa:Nat} (h:RS w R s f a fe fa) (hb:Below w.heap.size w w'):RS w' R s f a fe fa:=by
 obtain ⟨v,hC,h⟩:=h
 exact ⟨v,hC.below hb,h⟩
theorem RS.lt {w:World} {R:Nat} {s:ByteArray} {f:Option Nat} {a fe fa:Nat} (h:RS w R s f a fe fa):R < w.heap.size:=by
 obtain ⟨v,hC,h⟩:=h
 exact hC.lt
def plcR (w:World) (R:Nat):Nat:=match w.cell? ⟨R,1,none⟩ with
 | some (.int _ q)=>q.toNat
 | _=>0
theorem RS.plc {w:World} {R:Nat} {s:ByteArray} {f:Option Nat} {a fe fa:Nat} (h:RS w R s f a fe fa):plcR w R = a:=by
 obtain ⟨v,hC,h0,h1,h⟩:=h
 unfold plcR
 rw [hC.c 1 (by decide),h1]
 simp
def FltAt (W':World) (R fe fa:Nat):Option (Nat × Nat) → Prop
 | none=>W'.cell? ⟨R,8,none⟩ = some (.int .i64 (fe:Int)) ∧ W'.cell? ⟨R,9,none⟩ = some (.int .i64 (fa:Int))
 | some (er,p)=>W'.cell? ⟨R,8,none⟩ = some (.int .i64 (er:Int)) ∧ W'.cell? ⟨R,9,none⟩ = some (.int .i64 (p:Int))
theorem pieces_in (n:Nat) (l R:Nat) (s:ByteArray) (f0:Option Nat) (a0 fe fa:Nat) (J Jx:List Tok → World → Prop) (hJ:∀ pre W W',J pre W → But R W W' → J pre W')
  (hY:∀ (m:Nat) pre x W,J pre W → (pre ++ [x]) <+: (toksZ s f0 a0).1 → (∃ f a,RS W R s f a fe fa) → Env W → YieldAt Fence.wide m Tryz.prog l #[x.v] W fun e W'=>(e = .returned (.bool true) ∧ J (pre ++ [x]) W' ∧ KR R W W') ∨ (e = .returned (.bool false) ∧ Jx (pre ++ [x]) W'))
  (W:World) (h:RS W R s f0 a0 fe fa) (hE:Env W) (hR:7 ≤ R) (hok:okO s a0 f0) (h0:J [] W) :
  CallsIn Fence.wide n Tryz.prog 42 #[.pointer (some ⟨R,0,none⟩),.func (.yield l) #[] #[]] W fun e W'=>(∃ v,e = .returned v) ∧
   ((J (toksZ s f0 a0).1 W' ∧ FltAt W' R fe fa (toksZ s f0 a0).2) ∨
    (∃ pre,pre <+: (toksZ s f0 a0).1 ∧ Jx pre W')):=by
 refine callsIn_of_wp Tryz.func42 rfl trivial ?_ rfl
 simp only [Tryz.ntmps42,List.size_toArray,List.length_cons,List.length_nil,Nat.reduceAdd,Nat.reduceSub,Array.replicate_succ,Array.replicate_zero,List.push_toArray,List.append_toArray,List.nil_append,List.cons_append]
 gi_wp2
 gi_loopw [] (fun wr=>∃ (pre:List Tok) (f:Option Nat) (a:Nat),J pre wr ∧ RS wr R s f a fe fa ∧ Env wr ∧ okO s a f ∧ toksZ s f0 a0 = (pre ++ (toksZ s f a).1,(toksZ s f a).2)) (fun wr=>s.size - plcR wr R)
 case atStart=>exact ⟨[],f0,a0,h0,h,hE,hok,rfl⟩
 case round =>
  obtain ⟨pre,f,a,hj,hrs,he,hk,htk⟩:=hrel
  have hlt:=hrs.lt
  have hp:=piece_any R s f a fe fa wr hrs he hR hk
  cases hz:pieceZ s f a with
  | bad er p =>
   rw [hz] at hp
   have hp2:Calls Tryz.prog 67 #[.pointer (some ⟨R,0,none⟩)] wr fun e w'=>But R wr w' ∧ e = .returned (.tuple #[zTok,.bool false]) ∧ w'.cell? ⟨R,8,none⟩ = some (.int .i64 (er:Int)) ∧ w'.cell? ⟨R,9,none⟩ = some (.int .i64 (p:Int)):=hp
   clear hp
   rw [toksZ_bad hz] at htk
   gi_wp2_with (refine ⟨trivial,fun h=>absurd h (by decide),?_⟩;refine (callsIn_wide.2 hp2).mono ?_;rintro e w1 ⟨hb1,rfl,k8,k9⟩)
   refine ⟨fun _ h=>(by cases h),?_⟩
   gi_wp2_with fail
   refine bodyPost_ret (results_none rfl _ _ _) rfl ?_
   have hb2:=bel1 w1 (.cells #[.int .i64 0,.string E0,.string E0,.int .i64 0] 67)
   have hl1:R < w1.heap.size:=Nat.lt_of_lt_of_le hlt hb1.size
   rw [htk,List.append_nil]
   exact ⟨⟨_,rfl⟩,.inl ⟨hJ _ _ _ (hJ _ _ _ hj hb1) (But.of hb2),(hb2.cell (p:=⟨R,8,none⟩) hl1).trans k8,(hb2.cell (p:=⟨R,9,none⟩) hl1).trans k9⟩⟩
  | end_ b =>
   rw [hz] at hp
   have hp2:Calls Tryz.prog 67 #[.pointer (some ⟨R,0,none⟩)] wr fun e w'=>But R wr w' ∧ (∃ t:Tok,e = .returned (.tuple #[t.v,.bool false])) ∧ w'.cell? ⟨R,8,none⟩ = some (.int .i64 (fe:Int)) ∧ w'.cell? ⟨R,9,none⟩ = some (.int .i64 (fa:Int)):=hp
   clear hp
   simp only [Tok.v] at hp2
   rw [toksZ_end hz] at htk
   gi_wp2_with (refine ⟨trivial,fun h=>absurd h (by decide),?_⟩;refine (callsIn_wide.2 hp2).mono ?_;rintro e w1 ⟨hb1,⟨t,rfl⟩,k8,k9⟩)
   refine ⟨fun _ h=>(by cases h),?_⟩
   gi_wp2_with fail
   refine bodyPost_ret (results_none rfl _ _ _) rfl ?_
   have hb2:=bel1 w1 (.cells #[.int .i64 (t.k:Int),.string t.nm,.string t.vl,.int .i64 (t.p:Int)] 67)
   have hl1:R < w1.heap.size:=Nat.lt_of_lt_of_le hlt hb1.size
   rw [htk,List.append_nil]
   exact ⟨⟨_,rfl⟩,.inl ⟨hJ _ _ _ (hJ _ _ _ hj hb1) (But.of hb2),(hb2.cell (p:=⟨R,8,none⟩) hl1).trans k8,(hb2.cell (p:=⟨R,9,none⟩) hl1).trans k9⟩⟩
  | told nx b t =>
   rw [hz] at hp
   have hp2:Calls Tryz.prog 67 #[.pointer (some ⟨R,0,none⟩)] wr fun e w'=>But R wr w' ∧ e = .returned (.tuple #[t.v,.bool true]) ∧ RS w' R s nx b fe fa:=hp
   clear hp
   have hpt:=piece_told hk hz
   rw [toksZ_told hk hz] at htk
   have hY2:∀ w1,But R wr w1 → RS w1 R s nx b fe fa → YieldAt Fence.wide (n - 1) Tryz.prog l #[t.v] (w1.alloc (.cells #[.int .i64 (t.k:Int),.string t.nm,.string t.vl,.int .i64 (t.p:Int)] 67)) _:=fun w1 hb1 hrs1 =>
     hY (n - 1) pre t _ (hJ _ _ _ (hJ _ _ _ hj hb1) (But.of (bel1 w1 _))) ⟨(toksZ s nx b).1,by rw [htk];simp⟩ ⟨nx,b,hrs1.below (bel1 w1 _)⟩ ((he.but hb1 hR hlt).below (bel1 w1 _) (by have:=hb1.size;omega))
   have hpl:=hrs.plc
   simp only [Tok.v] at hp2 hY2
   gi_wp2_with (refine ⟨trivial,fun h=>absurd h (by decide),?_⟩;refine (callsIn_wide.2 hp2).mono ?_;rintro e w1 ⟨hb1,rfl,hrs1⟩;obtain ⟨fn,tmps,assign,body,hy,hRd⟩:=hY2 w1 hb1 hrs1)
   refine ⟨fun h=>absurd h (by decide),?_⟩
   refine hRd.mono ?_
   rintro e W3 (⟨rfl,hJ3,hk3⟩ | ⟨rfl,hJx3⟩)
   · have hrs3:=(hrs1.below (bel1 w1 _)).kr hk3
     have he3:=(((he.but hb1 hR hlt).below (bel1 w1 (.cells #[.int .i64 (t.k:Int),.string t.nm,.string t.vl,.int .i64 (t.p:Int)] 67)) (by have:=hb1.size;omega))).below hk3.be (Nat.le_refl _)
     have HF:Hid (J (pre ++ [t]) W3 ∧ RS W3 R s nx b fe fa ∧ Env W3):=⟨hJ3,hrs3,he3⟩
     have hpl3:=hrs3.plc
     clear hJ3 hrs3 he3 hk3 hRd hy hY2
     gi_wp2_with fail
     go_roundw
     case rel=>exact ⟨pre ++ [t],nx,b,HF.out.1,HF.out.2.1,HF.out.2.2,hpt.2.2,by rw [htk];simp⟩
     case measure=>rw [hpl3,hpl];omega
   · clear hRd hy hY2
     gi_wp2_with fail
     refine bodyPost_ret (results_none rfl _ _ _) rfl ?_
     exact ⟨⟨_,rfl⟩,.inr ⟨pre ++ [t],⟨(toksZ s nx b).1,by rw [htk];simp⟩,hJx3⟩⟩
end Go.Proofs.YtchfphakhmifmabGreatDoor

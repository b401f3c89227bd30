import Derived.Test.YtchfphakhmifmabGreatDoorXPcs
namespace Go.Proofs.YtchfphakhmifmabGreatDoor
set_option maxRecDepth 1000000
set_option maxHeartbeats 16000000
open Go.ChangeShapes Go.WideShapes Go.ChangeAt Go.RowKit Go.Shelf Go.Lib
abbrev tokO (x:Tok):Obj:=.cells #[.int .i64 (x.k:Int),.string x.nm,.string x.vl,.int .i64 (x.p:Int)] 67
def rPost (B R:Nat) (I:List Tok → World → Prop) (Ix:Code → List Tok → World → Prop) (xs:List Tok) (W:World):Exit → Act → World → Prop
 | .normal,_,W'=>KeepsFrom B W W' ∧ KR R W W' ∧ I xs W'
 | .ret,_,W'=>KeepsFrom B W W' ∧ Ix .ret xs W'
 | .exit id,_,W'=>KeepsFrom B W W' ∧ Ix (.exit id) xs W'
 | .goto t,_,W'=>KeepsFrom B W W' ∧ Ix (.goto t) xs W'
 | .panic _,_,_=>False
 | .outgrown,_,_=>False
def SeqR (n:Nat) (gf:Nat) (first lb:Array Value) (R:Nat) (toks:List Tok) (Fl:World → Prop) (W:World):Prop :=
 ∀ (l:Nat) (J Jx:List Tok → World → Prop),(∀ pre W W',J pre W → But R W W' → J pre W') →
  (∀ (m:Nat) pre x W,J pre W → (pre ++ [x]) <+: toks → R < W.heap.size → YieldAt Fence.wide m Tryz.prog l #[x.v] W fun e W'=>(e = .returned (.bool true) ∧ J (pre ++ [x]) W' ∧ KR R W W') ∨ (e = .returned (.bool false) ∧ Jx (pre ++ [x]) W')) →
  J [] W →
  CallsIn Fence.wide n Tryz.prog gf (first.push (.func (.yield l) #[] #[]) ++ lb) W fun e W'=>(∃ v,e = .returned v) ∧ ((J toks W' ∧ Fl W') ∨ (∃ pre,pre <+: toks ∧ Jx pre W'))
theorem KR.put {R l:Nat} {W:World} {o':Obj} (hl:l ≠ R) (h7:7 ≤ l):KR R W (W.putObj l o') :=
 ⟨World.putObj_heap_other hl.symm,(Below.refl 7 W).trans ⟨rfl,rfl,rfl,by simp [World.putObj],fun k hk=>World.putObj_heap_other (by omega)⟩⟩
theorem KR.alloc {R:Nat} {W:World} (hR:R < W.heap.size) (h7:7 ≤ W.heap.size) (o:Obj):KR R W (W.alloc o) :=
 ⟨Below.heap_alloc W o R hR,(Below.refl 7 W).alloc h7 o⟩
theorem rangeR {g:Operand} {ps:Array Tmp} {assign body:Code} {Q:Exit → Act → World → Prop} {a:Act} {w:World} {n:Nat} {gf:Nat} {first lb:Array Value}
  (hg:a.eval g = .func (.func gf) first lb) (eg:∀ args w,(callFunc gf args).run Tryz.prog w = .ok (.enter gf args) w) {R:Nat} (hR:R ≠ w.heap.size) (hR1:R ≠ w.heap.size + 1) (h7:7 ≤ w.heap.size)
  {toks:List Tok} {Fl:World → Prop} (hps:ps.size = 1)
  (hseq:∀ fn tmps,SeqR (n - 1) gf first lb R toks Fl ((w.alloc (.deferred (some []))).alloc (.loop { state:=.ready,pending:=none,fn,tmps,params:=ps,assign,body,defers:=w.heap.size })))
  (I:List Tok → World → Prop) (Ix:Code → List Tok → World → Prop) (hI:∀ pre W W',I pre W → But R W W' → I pre W')
  (hIp:∀ pre W l o o',I pre W → w.heap.size ≤ l → W.heap[l]? = some o → o.isCells = false → I pre (W.putObj l o'))
  (hIx:∀ c pre W l o o',Ix c pre W → w.heap.size ≤ l → W.heap[l]? = some o → o.isCells = false → Ix c pre (W.putObj l o'))
  (hFp:∀ W l o o',Fl W → w.heap.size ≤ l → W.heap[l]? = some o → o.isCells = false → Fl (W.putObj l o'))
  (h0:I [] w) (a₁:Tok → Nat → Act)
  (hassign:∀ (m l:Nat) (x:Tok) (W:World) (K:Act → World → Prop),K (a₁ x W.heap.size) (W.alloc (tokO x)) →
   assign.wpIn (Fence.wide.inRound l) m Tryz.prog (Exit.then K (fun _ _ _=>False)) { tmps:=(ps.zip #[x.v]).foldl (fun t (p,v)=>t.setIfInBounds p v) a.tmps,defers:=[] } W)
  (hbody:∀ (m l:Nat) (pre:List Tok) (x:Tok) (b:Nat) (W:World),w.heap.size ≤ l → (∃ r,W.heap[l]? = some (.loop r)) → (pre ++ [x]) <+: toks → I pre W → W.heap[b]? = some (tokO x) → w.heap.size + 1 < b → R < b →
   body.wpIn (Fence.wide.inRound l) m Tryz.prog (rPost w.heap.size R I Ix (pre ++ [x]) W) (a₁ x b) W)
  (hdone:∀ (D:Nat) (W:World),w.heap.size ≤ D → I toks W → Fl W → W.heap[D]? = some (.deferred (some [])) → Q .normal { a with defers:={ target:=.collected D,args:=#[] } :: a.defers } W)
  (hstop:∀ (D:Nat) (c:Code) (pre:List Tok) (W:World),w.heap.size ≤ D → pre <+: toks → Ix c pre W → W.heap[D]? = some (.deferred (some [])) → c.wpIn Fence.wide n Tryz.prog Q { a with defers:={ target:=.collected D,args:=#[] } :: a.defers } W) :
  (Code.rangeFunc g ps assign body).wpIn Fence.wide n Tryz.prog Q a w:=by
 refine wpIn_rangeFunc ?_
 intro fn hfn
 rw [show Fence.wide.round = none from rfl]
 obtain ⟨rec,hrec⟩:∃ rec:LoopState → Option Code → Loop,rec = fun st pe=>{ state:=st,pending:=pe,fn,tmps:=a.tmps,params:=ps,assign,body,defers:=w.heap.size }:=⟨_,rfl⟩
 obtain ⟨W1,hW1⟩:∃ W1,(w.alloc (.deferred (some []))).alloc (.loop (rec .ready none)) = W1:=⟨_,rfl⟩
 have hseq':=hseq fn a.tmps
 rw [show (Loop.mk .ready none fn a.tmps ps assign body w.heap.size) = rec .ready none by rw [hrec],hW1] at hseq'
 have hL1:W1.heap[w.heap.size + 1]? = some (.loop (rec .ready none)):=by
  rw [← hW1];have:=World.alloc_heap_new (w.alloc (.deferred (some []))) (.loop (rec .ready none));rwa [World.size_alloc] at this
 have hK1:W1.heap[w.heap.size]? = some (.deferred (some [])):=by
  rw [← hW1];exact (Below.heap_alloc _ _ _ (by simp)).trans (World.alloc_heap_new w _)
 have hI1:I [] W1:=by rw [← hW1];exact hI _ _ _ (hI _ _ _ h0 (But.of (bel1 w _))) (But.of (bel1 _ _))
 refine ⟨w.heap.size + 1,[{ target:=.collected w.heap.size,args:=#[] }],W1,{ target:=.fn (.func gf) lb,args:=first.push (.func (.yield (w.heap.size + 1)) #[] #[]) },W1,gf,
  first.push (.func (.yield (w.heap.size + 1)) #[] #[]) ++ lb,W1,?_,?_,?_,?_,fun h=>absurd h (by decide),?_⟩
 ·rw [← hW1,hrec];exact run_enterLoop_outer _ _ _ _ _
 ·simp only [resolve,hg]
  simp [go_sem]
 ·intro f' hf';trivial
 ·simp [invoke,go_sem,eg]
 ·have keepL:∀ (W W':World) (k:Nat) (o:Obj),k ≠ R → But R W W' → W.heap[k]? = some o → W'.heap[k]? = some o:=fun W W' k o hk hb h=>(hb.block k (Array.getElem?_eq_some_iff.1 h).1 hk).trans h
  refine (hseq' (w.heap.size + 1)
   (fun pre W=>I pre W ∧ W.heap[w.heap.size + 1]? = some (.loop (rec .ready none)) ∧ W.heap[w.heap.size]? = some (.deferred (some [])))
   (fun pre W=>∃ c,Ix c pre W ∧ W.heap[w.heap.size + 1]? = some (.loop (rec .done (some c))) ∧ W.heap[w.heap.size]? = some (.deferred (some [])))
   (fun pre W W' hs hb=>⟨hI _ _ _ hs.1 hb,keepL _ _ _ _ hR1.symm hb hs.2.1,keepL _ _ _ _ hR.symm hb hs.2.2⟩)
   ?_ ⟨hI1,hL1,hK1⟩).mono ?_
  ·rintro m pre x W ⟨hi,hl,hk⟩ hpx hRW
   have hlt:w.heap.size + 1 < W.heap.size:=(Array.getElem?_eq_some_iff.1 hl).1
   have hy:=run_yield (P:=Tryz.prog) (args:=#[x.v]) hl (by rw [hrec];exact hps.symm)
   rw [hrec] at hy
   refine ⟨fn,_,assign,body,hy,roundIn_of_wpIn hfn (hassign _ _ x W _ ?_)⟩
   clear hy
   have hkr0:KR R W (W.alloc (tokO x)):=KR.alloc hRW (by omega) _
   replace hi:=hI _ _ _ hi (But.of (bel1 W (tokO x)))
   have hl0:(W.alloc (tokO x)).heap[w.heap.size + 1]? = some (.loop (rec .ready none)):=(Below.heap_alloc W _ _ hlt).trans hl
   have hk0:(W.alloc (tokO x)).heap[w.heap.size]? = some (.deferred (some [])):=(Below.heap_alloc W _ _ (by omega)).trans hk
   have ht0:(W.alloc (tokO x)).heap[W.heap.size]? = some (tokO x):=World.alloc_heap_new W _
   have hsz:(W.alloc (tokO x)).heap.size = W.heap.size + 1:=World.size_alloc W _
   generalize W.alloc (tokO x) = Wa at *
   have hlta:w.heap.size + 1 < Wa.heap.size:=by omega
   refine ⟨_,run_beginRound hl0 (by rw [hrec]),?_⟩
   have hl2:(Wa.putObj (w.heap.size + 1) (.loop { rec .ready none with state:=.busy })).heap[w.heap.size + 1]? = some (.loop { rec .ready none with state:=.busy }):=World.putObj_heap_same hlta
   have hk2:(Wa.putObj (w.heap.size + 1) (.loop { rec .ready none with state:=.busy })).heap[w.heap.size]? = some (.deferred (some [])):=(World.putObj_heap_other (by omega)).trans hk0
   have ht2:(Wa.putObj (w.heap.size + 1) (.loop { rec .ready none with state:=.busy })).heap[W.heap.size]? = some (tokO x):=(World.putObj_heap_other (by omega)).trans ht0
   have hw2:KR R Wa (Wa.putObj (w.heap.size + 1) (.loop { rec .ready none with state:=.busy })):=KR.put hR1.symm (by omega)
   refine wpIn_mono (hbody _ _ pre x W.heap.size _ (by omega) ⟨_,hl2⟩ hpx (hIp _ _ _ _ _ hi (by omega) hl0 rfl) ht2 (by omega) hRW) ?_
   have fin:∀ (jump:Option Code) (W3:World),KeepsFrom w.heap.size (Wa.putObj (w.heap.size + 1) (.loop { rec .ready none with state:=.busy })) W3 →
     (Instr.endRound (w.heap.size + 1) jump).run Tryz.prog W3 = .ok (.bool jump.isNone) (W3.putObj (w.heap.size + 1) (.loop (rec (if jump.isNone then .ready else .done) jump))) ∧
     W3.heap[w.heap.size + 1]? = some (.loop { rec .ready none with state:=.busy }) ∧
     (W3.putObj (w.heap.size + 1) (.loop (rec (if jump.isNone then .ready else .done) jump))).heap[w.heap.size + 1]? = some (.loop (rec (if jump.isNone then .ready else .done) jump)) ∧
     (W3.putObj (w.heap.size + 1) (.loop (rec (if jump.isNone then .ready else .done) jump))).heap[w.heap.size]? = some (.deferred (some [])):=fun jump W3 hk3=>by
    have hl3:=hk3.same _ _ (by omega) hl2 rfl
    have:=run_endRound (P:=Tryz.prog) jump hl3
    rw [hrec] at this ⊢
    exact ⟨this,by rw [hrec] at hl3;exact hl3,World.putObj_heap_same (Array.getElem?_eq_some_iff.1 hl3).1,(World.putObj_heap_other (by omega)).trans (hk3.same _ _ (Nat.le_refl _) hk2 rfl)⟩
   rintro e a3 W3 hp
   cases e with
   | normal =>
    obtain ⟨hk3,hkp3,hi3⟩:=hp
    obtain ⟨hr,hl3,hl4,hk4⟩:=fin none W3 hk3
    exact ⟨_,_,hr,.inl ⟨rfl,⟨hIp _ _ _ _ _ hi3 (by omega) hl3 rfl,hl4,hk4⟩,((hkr0.trans hw2).trans hkp3).trans (KR.put hR1.symm (by omega))⟩⟩
   | ret =>
    obtain ⟨hk3,hi3⟩:=hp
    obtain ⟨hr,hl3,hl4,hk4⟩:=fin (some .ret) W3 hk3
    exact ⟨_,_,hr,.inr ⟨rfl,.ret,hIx _ _ _ _ _ _ hi3 (by omega) hl3 rfl,hl4,hk4⟩⟩
   | exit id =>
    obtain ⟨hk3,hi3⟩:=hp
    obtain ⟨hr,hl3,hl4,hk4⟩:=fin (some (.exit id)) W3 hk3
    exact ⟨_,_,hr,.inr ⟨rfl,.exit id,hIx _ _ _ _ _ _ hi3 (by omega) hl3 rfl,hl4,hk4⟩⟩
   | goto t =>
    obtain ⟨hk3,hi3⟩:=hp
    obtain ⟨hr,hl3,hl4,hk4⟩:=fin (some (.goto t)) W3 hk3
    exact ⟨_,_,hr,.inr ⟨rfl,.goto t,hIx _ _ _ _ _ _ hi3 (by omega) hl3 rfl,hl4,hk4⟩⟩
   | panic chn=>exact hp.elim
   | outgrown=>exact hp.elim
  ·rintro e W2 ⟨⟨v,rfl⟩,(⟨⟨hi,hl,hk⟩,hfl⟩ | ⟨pre,hSp,c,hi,hl,hk⟩)⟩
   ·exact ⟨none,_,by have:=run_endLoop (P:=Tryz.prog) hl (by rw [hrec];simp);rw [hrec] at this;exact this,hdone _ _ (Nat.le_refl _) (hIp _ _ _ _ _ hi (by omega) hl rfl) (hFp _ _ _ _ hfl (by omega) hl rfl) ((World.putObj_heap_other (by omega)).trans hk)⟩
   ·exact ⟨some c,_,by have:=run_endLoop (P:=Tryz.prog) hl (by rw [hrec];simp);rw [hrec] at this;exact this,hstop _ c pre _ (Nat.le_refl _) hSp (hIx _ _ _ _ _ _ hi (by omega) hl rfl) ((World.putObj_heap_other (by omega)).trans hk)⟩
theorem pieces_seq (n R:Nat) (s:ByteArray) (f:Option Nat) (a fe fa:Nat) (W:World) (h:RS W R s f a fe fa) (hE:Env W) (hR:7 ≤ R) (hok:okO s a f) :
  SeqR n 42 #[.pointer (some ⟨R,0,none⟩)] #[] R (toksZ s f a).1 (fun W'=>FltAt W' R fe fa (toksZ s f a).2) W :=
 fun l J Jx hJ hY h0=>pieces_in n l R s f a fe fa J Jx hJ (fun m pre x W hj hpx hrs _=>hY m pre x W hj hpx (by obtain ⟨f,a,hrs⟩:=hrs;exact hrs.lt)) W h hE hR hok h0
abbrev rdO (s:ByteArray) (fv:Value):Obj:=.cells #[.string s,.int .i64 0,fv,.int .i64 0,.string E0,.string E0,.int .i64 0,.bool false,.int .i64 0,.int .i64 0] 94
theorem RC.new (w:World) (s:ByteArray) (fv:Value):RC (w.alloc (rdO s fv)) w.heap.size (fun o=>#[.string s,.int .i64 0,fv,.int .i64 0,.string E0,.string E0,.int .i64 0,.bool false,.int .i64 0,.int .i64 0].getD o undef):=by
 have e:=heap_new w (rdO s fv)
 refine ⟨fun o ho=>?_,fun o=>by simp only [World.frozen?,e];simp,by simp⟩
 simp only [World.cell?,e]
 have h9:o = 0 ∨ o = 1 ∨ o = 2 ∨ o = 3 ∨ o = 4 ∨ o = 5 ∨ o = 6 ∨ o = 7 ∨ o = 8 ∨ o = 9:=by omega
 rcases h9 with rfl | rfl | rfl | rfl | rfl | rfl | rfl | rfl | rfl | rfl <;> rfl
theorem newReader_any (s:ByteArray) (w:World):Calls Tryz.prog 41 #[.string s] w fun e w'=>e = .returned (.pointer (some ⟨w.heap.size,0,none⟩)) ∧ Below w.heap.size w w' ∧ w'.heap.size = w.heap.size + 1 ∧ RS w' w.heap.size s (some 66) 0 0 0:=by
 have hmf:=hmfA
 have HR:Hid (RS (w.alloc (rdO s (fnV w.heap.size (some 66)))) w.heap.size s (some 66) 0 0 0) :=
  ⟨_,RC.new w s _,rfl,rfl,rfl,rfl,rfl,⟨0,E0,E0,0⟩,rfl,rfl,rfl,rfl⟩
 go_enter Tryz.func41,Tryz.ntmps41
 go_wp2_with fail
 go_ret
 exact ⟨rfl,bel1 w _,by simp,HR.out⟩
theorem toksN_len (s:ByteArray) (hs:s.size ≤ 9223372036854775807):(toksN s).1.length ≤ 1048576:=by
 by_cases h:1048576 < s.size
 ·have hp:pieceZ s (some 66) 0 = .bad 45 1048576:=by
   show runZ s 3 _ 0 = _
   simp only [runZ,stepZ_begin]
   unfold beginZ
   rw [if_pos h]
  unfold toksN
  rw [toksZ_bad hp]
  exact Nat.zero_le _
 ·have:=toks_len s (s.size + 1) (some 66) 0 (.inl ⟨rfl,rfl,hs⟩) (Nat.zero_le _)
  unfold toksN toksZ
  omega
attribute [local go_sem] Oper.semAt_some
theorem plainZ_ne {v t:ByteArray} {p er q:Nat} (h:plainZ v p = (some (er,q),t)):er ≠ 0:=by
 unfold plainZ at h
 split at h
 ·cases h
 ·rename_i h0
  injection h with h1 h2
  injection h1 with h1
  injection h1 with h1 h3
  omega
theorem nameZ_ne {s:ByteArray} {a e p:Nat} (h:nameZ s a = .bad e p):e ≠ 0:=by
 unfold nameZ at h
 split at h
 ·injection h;omega
 ·split at h
  ·cases h
  ·injection h;omega
theorem expZ_ne {s:ByteArray} {a c e p:Nat} (h:expZ s a c = some (e,p)):e ≠ 0:=by
 unfold expZ at h
 split at h
 ·injection h with h;injection h;omega
 ·split at h
  ·cases h
  ·injection h with h;injection h;omega
theorem valQ_ne {s:ByteArray} {a e p:Nat} {q:UInt8} (h:valQ s a q = .bad e p):e ≠ 0:=by
 unfold valQ at h
 split at h
 ·injection h;omega
 ·split at h
  ·split at h
   ·cases h
   ·rename_i hz
    injection h with h1 h2
    rw [← h1]
    exact plainZ_ne hz
  ·injection h;omega
theorem valueZ_ne {s:ByteArray} {a e p:Nat} (h:valueZ s a = .bad e p):e ≠ 0:=by
 unfold valueZ at h
 split at h
 ·injection h;omega
 ·split at h
  ·exact valQ_ne h
  ·split at h
   ·exact valQ_ne h
   ·injection h;omega
theorem stepZ_ne {s:ByteArray} {f a e p:Nat} (h:stepZ s f a = .bad e p):e ≠ 0:=by
 unfold stepZ at h
 split at h
 ·unfold beginZ at h
  split at h
  ·injection h;omega
  ·split at h
   ·split at h <;> cases h
   ·rename_i h0;injection h with h1;omega
 split at h
 ·unfold declZ at h
  split at h
  ·injection h;omega
  ·cases h
 split at h
 ·unfold contentZ at h
  split at h
  ·cases h
  ·split at h
   ·split at h
    ·cases h
    ·split at h
     ·cases h
     ·split at h
      ·injection h;omega
      ·cases h
   ·cases h
 split at h
 ·unfold textZ at h
  split at h
  ·rename_i hz
   injection h with h1
   rw [← h1]
   exact plainZ_ne hz
  ·cases h
 split at h
 ·unfold commentZ at h
  split at h
  ·rename_i hz;injection h with h1;rw [← h1];exact expZ_ne hz
  ·split at h
   ·rename_i hz;injection h with h1;rw [← h1];exact expZ_ne hz
   ·split at h
    ·split at h
     ·injection h;omega
     ·split at h
      ·cases h
      ·injection h;omega
    ·injection h;omega
 split at h
 ·unfold endZ at h
  split at h
  ·rename_i hz;injection h with h1;rw [← h1];exact nameZ_ne hz
  ·split at h
   ·rename_i hz;injection h with h1;rw [← h1];exact expZ_ne hz
   ·cases h
 split at h
 ·unfold startZ at h
  split at h
  ·rename_i hz;injection h with h1;rw [← h1];exact nameZ_ne hz
  ·cases h
 split at h
 ·unfold inTagZ at h
  split at h
  ·injection h;omega
  ·split at h
   ·cases h
   ·split at h
    ·cases h
    ·split at h
     ·cases h
     ·injection h;omega
 split at h
 ·cases h
 split at h
 ·unfold emptyEndZ at h
  split at h
  ·rename_i hz;injection h with h1;rw [← h1];exact expZ_ne hz
  ·cases h
 ·unfold attrZ at h
  split at h
  ·rename_i hz;injection h with h1;rw [← h1];exact nameZ_ne hz
  ·split at h
   ·rename_i hz;injection h with h1;rw [← h1];exact expZ_ne hz
   ·split at h
    ·rename_i hz;injection h with h1;rw [← h1];exact valueZ_ne hz
    ·cases h
theorem runZ_ne {s:ByteArray}:∀ {n:Nat} {f:Option Nat} {a e p:Nat},runZ s n f a = .bad e p → e ≠ 0
 | n,none,a,e,p,h=>by cases n <;> cases h
 | 0,some f,a,e,p,h=>by cases h
 | n + 1,some f,a,e,p,h=>by
  simp only [runZ] at h
  cases hz:stepZ s f a with
  | bad e' p'=>rw [hz] at h;injection h with h1;rw [← h1];exact stepZ_ne hz
  | go nx b ot =>
   rw [hz] at h
   cases ot with
   | some t=>cases h
   | none=>exact runZ_ne h
theorem toksF_ne {s:ByteArray}:∀ {n:Nat} {f:Option Nat} {a e p:Nat},(toksF s n f a).2 = some (e,p) → e ≠ 0
 | 0,_,_,_,_,h=>by cases h
 | n + 1,f,a,e,p,h=>by
  simp only [toksF] at h
  cases hz:pieceZ s f a with
  | bad e' p'=>rw [hz] at h;injection h with h;injection h with h1;rw [← h1];exact runZ_ne hz
  | end_ b=>rw [hz] at h;cases h
  | told nx b t=>rw [hz] at h;exact toksF_ne h
def tokC (t:Tok):List Value:=[.int .i64 (t.k:Int),.string t.nm,.string t.vl,.int .i64 (t.p:Int)]
def tokCells (ts:List Tok):List Value:=ts.flatMap tokC
def TRow (W:World) (base:Nat) (v:Value) (ts:List Tok):Prop:=W.ownsRow base 67 4 v ts.length (tokCells ts)
theorem TRow.kept {W W':World} {base:Nat} {v:Value} {ts:List Tok} (h:TRow W base v ts) (hk:∀ g cur,base ≤ g → W.heap[g]? = some (.cells cur 67 (0,0)) → W'.heap[g]? = some (.cells cur 67 (0,0))):TRow W' base v ts:=by
 refine ⟨h.1,?_⟩
 rcases h.2 with h0 | ⟨g,cap,cur,e,hb,hg,r⟩
 ·exact .inl h0
 ·exact .inr ⟨g,cap,cur,e,hb,hk g cur hb hg,r⟩
theorem TRow.but {W W':World} {base R:Nat} {v:Value} {ts:List Tok} (h:TRow W base v ts) (hb:But R W W') (hR:R < base):TRow W' base v ts :=
 h.kept fun g cur hg hc=>(hb.block g (Array.getElem?_eq_some_iff.1 hc).1 (by omega)).trans hc
theorem TRow.put {W:World} {base l:Nat} {v:Value} {ts:List Tok} {o o':Obj} (h:TRow W base v ts) (hl:W.heap[l]? = some o) (ho:o.isCells = false):TRow (W.putObj l o') base v ts :=
 h.kept fun g cur _ hc=>by
  by_cases e:g = l
  ·subst e;rw [hl] at hc;injection hc with hc;rw [hc] at ho;cases ho
  ·exact (World.putObj_heap_other e).trans hc
theorem TRow.below {W W':World} {base:Nat} {v:Value} {ts:List Tok} (h:TRow W base v ts) (hb:Below W.heap.size W W'):TRow W' base v ts :=
 h.kept fun g _ _ hc=>(hb.block g (Array.getElem?_eq_some_iff.1 hc).1).trans hc
theorem TRow.mono {W:World} {base base':Nat} {v:Value} {ts:List Tok} (h:TRow W base v ts) (hB:base' ≤ base):TRow W base' v ts:=by
 refine ⟨h.1,?_⟩
 rcases h.2 with h0 | ⟨g,cap,cur,e,hb,r⟩
 ·exact .inl h0
 ·exact .inr ⟨g,cap,cur,e,by omega,r⟩
theorem infoT:(Tryz.prog.info? 67).map (fun i=>(i.zero,i.size,i.bytes)) = some (some zTok,4,48):=by kernel_rfl
attribute [local go_sem] Oper.semAt_some
theorem ent_pieces:∀ ag w,(callFunc 42 ag).run Tryz.prog w = .ok (.enter 42 ag) w:=enters_of Tryz.func42 (by kernel_rfl) rfl
theorem set_box {W:World} {b:Nat} {v:Value} {ty:TypeId} (h:W.heap[b]? = some (.cells #[v] ty)) (u:Value):(W.setCell ⟨b,0,none⟩ u).heap[b]? = some (.cells #[u] ty):=Boxed.set u h
def TksPost (w:World) (s:ByteArray) (e:Ending) (w':World):Prop :=
 Below w.heap.size w w' ∧ match (toksN s).2 with
  | some (er,p)=>e = .returned (.tuple #[.slice none 0 0,.int .i64 (er:Int),.int .i64 (p:Int)])
  | none=>∃ v,e = .returned (.tuple #[v,.int .i64 0,.int .i64 0]) ∧ TRow w' w.heap.size v (toksN s).1
theorem Tokens_in (n:Nat) (s:ByteArray) (w:World) (hE:Env w) (h7:7 ≤ w.heap.size) (hs:s.size ≤ 9223372036854775807) :
  CallsIn Fence.wide n Tryz.prog 25 #[.string s] w (TksPost w s):=by
 have hN:=newReader_any s w
 have hmf:=hmfA
 refine callsIn_of_wp_marks Tryz.func25 rfl trivial ?_ rfl
 simp only [Tryz.ntmps25,List.size_toArray,List.length_cons,List.length_nil,Nat.reduceAdd,Nat.reduceSub,Array.replicate_succ,Array.replicate_zero,List.push_toArray,List.append_toArray,List.nil_append,List.cons_append]
 gi_wp2_with (refine ⟨trivial,fun h=>absurd h (by decide),?_⟩;refine (callsIn_wide.2 hN).mono ?_;rintro e w1 ⟨rfl,hb1,hz1,hr1⟩)
 have hW:(w1.alloc (.cells #[.slice none 0 0] 62)).heap.size = w.heap.size + 2:=by rw [World.size_alloc,hz1]
 have hT0:(w1.alloc (.cells #[.slice none 0 0] 62)).heap[w.heap.size + 1]? = some (.cells #[.slice none 0 0] 62):=by rw [← hz1];exact heap_new w1 _
 have hB0:Below w.heap.size w (w1.alloc (.cells #[.slice none 0 0] 62)):=hb1.alloc (by omega) _
 have hRS0:RS (w1.alloc (.cells #[.slice none 0 0] 62)) w.heap.size s (some 66) 0 0 0:=hr1.below (bel1 w1 _)
 generalize w1.alloc (.cells #[.slice none 0 0] 62) = W0 at *
 have hlen:=toksN_len s hs
 refine rangeR (gf:=42) (first:=#[.pointer (some ⟨w.heap.size,0,none⟩)]) (lb:=#[]) (R:=w.heap.size) (toks:=(toksN s).1) (Fl:=fun W'=>FltAt W' w.heap.size 0 0 (toksN s).2) rfl ent_pieces (by omega) (by omega) (by omega) rfl
  (fun fn tmps=>pieces_seq (n - 1) w.heap.size s (some 66) 0 0 0 _ ((hRS0.below (bel1 W0 _)).below (bel1 _ _)) (((hE.below hB0 h7).below (bel1 W0 _) (by omega)).below (bel1 _ _) (by rw [World.size_alloc];omega)) h7 (.inl ⟨rfl,rfl,hs⟩))
  (fun pre W=>∃ v,W.heap[w.heap.size + 1]? = some (.cells #[v] 62) ∧ TRow W (w.heap.size + 2) v pre ∧ Below w.heap.size w W)
  (fun _ _ _=>False) ?hI ?hIp (fun _ _ _ _ _ _ h=>h.elim) ?hFp ⟨_,hT0,World.ownsRow_nil _ _ _ 4,hB0⟩
  (fun x b=>{ tmps:=#[.string s,undef,.slice none 0 0,.int .i64 0,.int .i64 0,.pointer (some ⟨w.heap.size,0,none⟩),.pointer (some ⟨w.heap.size + 1,0,none⟩),.pointer (some ⟨b,0,none⟩),.string s,.pointer (some ⟨w.heap.size,0,none⟩),.pointer (some ⟨w.heap.size,0,none⟩),.func (.func 42) #[.pointer (some ⟨w.heap.size,0,none⟩)] #[],x.v,undef,undef,undef,undef,undef,undef,undef,undef,undef,undef,undef,undef,undef,undef,undef,undef,undef,undef,undef,undef,undef],defers:=[] }) ?assign ?body ?done ?stop
 case hI =>
  rintro pre W W' ⟨v,hv,hr,hb⟩ hbut
  have hl:w.heap.size + 1 < W.heap.size:=(Array.getElem?_eq_some_iff.1 hv).1
  exact ⟨v,(hbut.block _ hl (by omega)).trans hv,hr.but hbut (by omega),hb.trans (hbut.below (Nat.le_refl _) (by omega))⟩
 case hIp =>
  rintro pre W l o o' ⟨v,hv,hr,hb⟩ hle hl ho
  exact ⟨v,(World.putObj_heap_other (by omega)).trans hv,hr.put hl ho,hb.trans ⟨rfl,rfl,rfl,by simp [World.putObj],fun k hk=>World.putObj_heap_other (by omega)⟩⟩
 case hFp =>
  intro W l o o' hf hle hl ho
  have e:∀ i,(W.putObj l o').cell? ⟨w.heap.size,i,none⟩ = W.cell? ⟨w.heap.size,i,none⟩:=fun i=>by simp only [World.cell?,World.putObj_heap_other (show w.heap.size ≠ l by omega)]
  cases hz:(toksN s).2 with
  | none=>rw [hz] at hf;exact ⟨(e 8).trans hf.1,(e 9).trans hf.2⟩
  | some q=>rw [hz] at hf;exact ⟨(e 8).trans hf.1,(e 9).trans hf.2⟩
 case assign =>
  intro m l x W K hK
  simp only [Tok.v] at hK ⊢
  gi_wp2
  exact hK
 case body =>
  rintro m l pre x b W hle hlr hpx ⟨v,hv,hr,hb⟩ htk hbl hRb
  obtain ⟨i0,hi,hz0,hz1',hz2⟩:=info_parts infoT
  have hlT:w.heap.size + 1 < W.heap.size:=(Array.getElem?_eq_some_iff.1 hv).1
  have hcv:W.cell? ⟨w.heap.size + 1,0,none⟩ = some v:=by simp only [World.cell?,hv];rfl
  have hfv:W.frozen? ⟨w.heap.size + 1,0,none⟩ = false:=by simp only [World.frozen?,hv];simp
  have hTK:=TK.of htk
  have q0:=hTK.c0
  have q1:=hTK.c1
  have q2:=hTK.c2
  have q3:=hTK.c3
  have hpl:pre.length + 1 ≤ 1048576:=by have:=hpx.length_le;rw [List.length_append] at this;simp at this;omega
  have hr1:=hr.below (bel1 W (tokO x))
  have hnews:=TK.of (heap_new W (tokO x))
  have hcells:∀ j u,(tokC x)[j]? = some u → (W.alloc (tokO x)).cell? ((⟨W.heap.size,0,none⟩:Addr).add j) = some u:=by
   intro j u hu
   match j,hu with
   | 0,hu=>cases hu;exact hnews.c0
   | 1,hu=>cases hu;exact hnews.c1
   | 2,hu=>cases hu;exact hnews.c2
   | 3,hu=>cases hu;exact hnews.c3
   | j + 4,hu=>cases hu
  have hone:∀ u ∈ tokC x,u.oneCell' = true:=by
   intro u hu
   simp only [tokC,List.mem_cons,List.not_mem_nil,or_false] at hu
   rcases hu with rfl | rfl | rfl | rfl <;> rfl
  have hrow:∀ v,TRow W (w.heap.size + 2) v pre → ∀ k,v.ownBlock = some k → w.heap.size + 2 ≤ k:=by
   intro v h k hk
   rcases h.2 with ⟨rfl,_⟩ | ⟨g,cap,cur,rfl,hb,_⟩
   ·cases hk
   ·cases hk;exact hb
  simp only [Tok.v]
  gi_wp2_with (gi_at_builtin;refine wpListIn_append_own _ rfl _ _ 62 rfl (w.heap.size + 2) 67 i0 zTok 4 48 Tryz.underlying62 hi hz0 hz1' hz2 rfl (by decide) v pre.length (tokCells pre) rfl hr1 ⟨W.heap.size,0,none⟩ 1 1 (tokC x) rfl rfl hcells hone (by simp only [maxLen];omega) (by omega) (by rw [World.size_alloc];omega) ?_;intro v' w2 hown' hgrow _;obtain ⟨g',cap',rfl⟩:=ownsRow_succ hown';have hbe:Below (w.heap.size + 2) W w2:=((Below.refl _ W).alloc (by omega) (tokO x)).grown hgrow (by rw [World.size_alloc];omega) (hrow v hr);have hv2:w2.heap[w.heap.size + 1]? = some (.cells #[v] 62):=(hbe.block _ (by omega)).trans hv;have hc2:w2.cell? ⟨w.heap.size + 1,0,none⟩ = some v:=(by simp only [World.cell?,hv2];rfl);have hf2:w2.frozen? ⟨w.heap.size + 1,0,none⟩ = false:=(by simp only [World.frozen?,hv2];simp))
  have hcl:∀ (j:Nat) (o:Obj),v.ownBlock = some j → (W.alloc (tokO x)).heap[j]? = some o → o.isCells = true:=by
   intro j o hj ho
   rcases hr1.2 with ⟨rfl,_⟩ | ⟨g,cap,cur,rfl,_,hg,_⟩
   ·cases hj
   ·cases hj;rw [hg] at ho;cases ho;rfl
  have hbe3:=(hbe.mono (show w.heap.size + 1 ≤ w.heap.size + 2 by omega)).setCell (p:=⟨w.heap.size + 1,0,none⟩) (Nat.le_refl _) (.slice (some ⟨g',0,none⟩) (pre.length + 1) cap')
  refine ⟨(((KeepsOthers.alloc W (tokO x)).trans (KeepsOthers.of_grownBy hgrow hcl)).trans (KeepsOthers.setCell _ _ _)).from _,⟨hbe3.block _ (by omega),hbe3.mono (by omega)⟩,_,set_box hv2 _,?_,hb.trans (hbe3.mono (by omega))⟩
  have hown2:TRow w2 (w.heap.size + 2) (.slice (some ⟨g',0,none⟩) (pre.length + 1) cap') (pre ++ [x]):=by
   unfold TRow tokCells
   rw [List.flatMap_append,List.length_append]
   simpa [tokCells] using hown'
  exact hown2.kept fun g cur hg hc=>(Below.heap_setCell w2 _ _ _ (show g ≠ w.heap.size + 1 by omega)).trans hc
 case done =>
  rintro D W hD ⟨v,hv,hr,hb⟩ hf hK
  have hcv:W.cell? ⟨w.heap.size + 1,0,none⟩ = some v:=by simp only [World.cell?,hv];rfl
  cases hz:(toksN s).2 with
  | none =>
   rw [hz] at hf
   have k8:W.cell? ⟨w.heap.size,8,none⟩ = some (.int .i64 0):=hf.1
   gi_wp2_with fail
   refine ⟨by simp,.inl ⟨_,_,rfl,run_takeDeferred hK,?_⟩⟩
   have hput:Below w.heap.size w (W.putObj D (.deferred none)):=hb.trans ⟨rfl,rfl,rfl,by simp [World.putObj],fun k hk=>World.putObj_heap_other (by omega)⟩
   refine ⟨.tuple #[v,.int .i64 0,.int .i64 0],by simp [results,Tryz.results25,go_sem],hput,?_⟩
   rw [hz]
   exact ⟨v,rfl,(hr.put hK rfl).mono (by omega)⟩
  | some q =>
   obtain ⟨er,p⟩:=q
   rw [hz] at hf
   have k8:∀ n,(W.drewN n).cell? ⟨w.heap.size,8,none⟩ = some (.int .i64 (er:Int)):=fun n=>hf.1
   have k9:∀ n,(W.drewN n).cell? ⟨w.heap.size,9,none⟩ = some (.int .i64 (p:Int)):=fun n=>hf.2
   have hne:=toksF_ne hz
   have hb8:((er:Int) == 0) = false:=beq_eq_false_iff_ne.2 (by omega)
   have hn8:¬ (er:Int) = 0:=by omega
   have j8:=hf.1
   have j9:=hf.2
   gi_wp2_with fail
   refine wpIn_wide.2 ?_
   go_quiet (fail)
   gi_wp2_with fail
   have hK2:(W.drewN nq).heap[D]? = some (.deferred (some [])):=hK
   refine ⟨by simp,.inl ⟨_,_,rfl,run_takeDeferred hK2,?_⟩⟩
   have hput:Below w.heap.size w ((W.drewN nq).putObj D (.deferred none)):=(bdN hb nq).trans ⟨rfl,rfl,rfl,by simp [World.putObj],fun k hk=>World.putObj_heap_other (by omega)⟩
   refine ⟨.tuple #[.slice none 0 0,.int .i64 (er:Int),.int .i64 (p:Int)],by simp [results,Tryz.results25,go_sem],hput,?_⟩
   rw [hz]
 case stop =>
  rintro D c pre W _ _ h _
  exact h.elim
theorem Tokens_any (s:ByteArray) (w:World) (hE:Env w) (h7:7 ≤ w.heap.size) (hs:s.size ≤ 9223372036854775807):Calls Tryz.prog 25 #[.string s] w (TksPost w s):=(callsIn_wide (n:=0)).1 (Tokens_in 0 s w hE h7 hs)
end Go.Proofs.YtchfphakhmifmabGreatDoor

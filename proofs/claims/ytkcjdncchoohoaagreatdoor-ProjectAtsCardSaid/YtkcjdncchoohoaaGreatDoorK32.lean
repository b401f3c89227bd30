import Derived.Test.YtkcjdncchoohoaaGreatDoorK31
import Derived.Sort.OwnSortedInts
import Derived.Sort.EveryDepth
import Derived.Shelf.Sort.AssemblyIn
namespace Go.Proofs.YtkcjdncchoohoaaGreatDoor
set_option maxRecDepth 1000000
set_option maxHeartbeats 16000000
open Go.ChangeShapes Go.WideShapes Go.ChangeAt Go.RowKit Go.Shelf Go.Maps
theorem wpList_bs {P:Program} {w w':World} {ops:Array Oper} {rest:List Oper} {a:Act} {Q:Exit->Act->World->Prop} {d:Option Tmp} {ty:TypeId} {ps:String} {af:Array Edge} {t:TypeId} {n:Nat} {xs:Array (Nat×Operand)} {ys:Array (Nat×Value)} {v:Value} (hr:(Instr.buildSlice t n ys).run P w = .ok v w') (hx:(xs.map fun (i,x)=>(i,a.eval x))=ys)
  (h:wpList P ops Q rest (a.put d v) w'):wpList P ops Q (⟨d,.buildSlice t n xs,ty,ps,af,none⟩::rest) a w:=by
 refine wpList_plain rfl fun _ hK=>?_
 unfold Oper.wp execOp
 simp only[hx,hr,Sem.run_bind,Result.andThen_ok]
 exact hK _ _ h
def sm0:Tk:=smT 0 [77] 3 0 0 0 0 0 0 0 0 6 6 7
def sm1:Tk:=smT 2 [97] 1 0 4 0 0 0 0 0 0 0 0 3
def sm2:Tk:=smT 14 [117,105,110,116,51,50] 0 0 4 0 7 1 0 4294967295 4294967294 0 0 2
def sm3:Tk:=smT 3 [97] 0 0 0 0 0 0 0 0 0 0 0 1
def sm4:Tk:=smT 2 [98] 2 4 2 1 0 0 1 0 0 0 0 6
def sm5:Tk:=smT 14 [117,105,110,116,49,54] 0 0 2 0 6 1 0 65535 65534 0 0 5
def sm6:Tk:=smT 3 [98] 0 0 0 0 0 0 0 0 0 0 0 4
def sm7:Tk:=smT 1 [77] 0 0 0 0 0 0 0 0 0 0 0 0
def tkCs:List Tk->List Value
 | []=>[]
 | t::r=>tkC t none 0++tkCs r
theorem sm_bs (W:World):(Instr.buildSlice 28 8 #[(0,tkV sm0 none 0),(1,tkV sm1 none 0),(2,tkV sm2 none 0),(3,tkV sm3 none 0),(4,tkV sm4 none 0),(5,tkV sm5 none 0),(6,tkV sm6 none 0),(7,tkV sm7 none 0)]).run Tryz.prog W = .ok (.slice (some ⟨W.heap.size,0,none⟩) 8 8) (W.alloc (.cells (tkCs smF.toks).toArray 47)):=by kernel_rfl
theorem tkCs_get:∀ (l:List Tk) (i:Nat) (t:Tk),l[i]?=some t->∀ j,j<21->(tkCs l)[i*21+j]?=(tkC t none 0)[j]?
 | [],_,_,h,_,_=>by cases h
 | a::r,0,t,h,j,hj=>by
  cases h
  rw[tkCs,Nat.zero_mul,Nat.zero_add,List.getElem?_append_left (by show j<21;omega)]
 | a::r,i+1,t,h,j,hj=>by
  have ih:=tkCs_get r i t h j hj
  have hl:(tkC a none 0).length=21:=rfl
  rw[tkCs,List.getElem?_append_right (by omega),hl,<- ih]
  congr 1
  omega
theorem tkL_lit {w:World} {g H:Nat} {l:List Tk} (hg:w.heap[g]?=some (.cells (tkCs l).toArray 47)) (hH:g<H) (hl:l.length*192<=140737488355328) (hc:∀ t∈l,t.cst=[]/\TkOk t):TkL w (some ⟨g,0,none⟩) H l :=
 ⟨⟨fun i t ht=>by
  have h0:=(hc t (List.mem_of_getElem? ht)).1
  refine⟨g,0,none,0,rfl,hH,tkC_of fun j u hu=>?_,by rw[h0];exact URow.nil _ _ _,by rw[h0];exact Nat.le_refl _⟩
  rw[Nat.zero_add,cell_at hg,List.getElem?_toArray,tkCs_get l i t ht j (List.getElem?_eq_some_iff.1 hu).1]
  exact hu⟩,hl,fun t ht=>(hc t ht).2⟩
def iB (x:Int):Bool:=decide (-9223372036854775808<=x/\x<=9223372036854775807)
def uB (x:Int):Bool:=decide (0<=x/\x<=18446744073709551615)
def tokB (t:Tk):Bool:=t.cst.isEmpty&&iB t.op&&decide (t.name.size<=281474976710656)&&iB t.id&&iB t.off&&iB t.siz&&iB t.since&&iB t.prim&&iB t.len&&iB t.pres&&uB t.nul&&uB t.lo&&uB t.hi&&uB t.val&&iB t.blk&&iB t.full&&iB t.a.p&&iB t.a.o&&iB t.b.p&&iB t.b.o&&iB t.pair
theorem tokB_ok {t:Tk} (h:tokB t=true):t.cst=[]/\TkOk t:=by
 unfold tokB at h
 simp only[Bool.and_eq_true,List.isEmpty_iff,iB,uB,decide_eq_true_eq] at h
 obtain⟨⟨⟨⟨⟨⟨⟨⟨⟨⟨⟨⟨⟨⟨⟨⟨⟨⟨⟨⟨h0,h1⟩,h2⟩,h3⟩,h4⟩,h5⟩,h6⟩,h7⟩,h8⟩,h9⟩,h10⟩,h11⟩,h12⟩,h13⟩,h14⟩,h15⟩,h16⟩,h17⟩,h18⟩,h19⟩,h20⟩:=h
 exact⟨h0,⟨h1,h2,h3,h4,h5,h6,h7,h8,h9,h10,h11,h12,by rw[h0];decide,by rw[h0];simp,h13,h14,h15,h16,h17,h18,h19,h20⟩⟩
theorem sm_toks:∀ t∈smF.toks,t.cst=[]/\TkOk t:=by
 have h:smF.toks.all tokB=true:=by decide +kernel
 exact fun t ht=>tokB_ok (List.all_eq_true.1 h t ht)
theorem infoSpP:(Tryz.prog.info? 25).map (·.size)=some 2:=by kernel_rfl
theorem small_any (w:World):Calls Tryz.prog 15 #[] w fun r w'=>∃ g,r = .returned (fmV smF (some ⟨g,0,none⟩) 8)/\TkL w' (some ⟨g,0,none⟩) w'.heap.size smF.toks/\Below w.heap.size w w':=by
 have hb0:=bel1 w J.zFo
 have hr0:=heap_al w J.zFo
 have hs0:(w.alloc J.zFo).heap.size=w.heap.size+1:=World.size_alloc _ _
 generalize hW:w.alloc J.zFo=W0 at hb0 hr0 hs0
 simp only[J.zFo] at hW
 obtain⟨W1,s1,t1,b1,z1⟩:∃ W1,(∀ z:Array Value,z.size=21->(Instr.storeAt 47 (.pointer (some ⟨W0.heap.size,0,none⟩)) (tkV sm2 none 0)).run Tryz.prog (W0.alloc (.cells z 47)) = .ok () W1)/\W1.heap[W0.heap.size]?=some (tkO sm2 none 0)/\Below W0.heap.size W0 W1/\W1.heap.size=W0.heap.size+1:=⟨_,fun z hz=>st_new W0 z hz sm2 none 0,heap_al _ _,bel1 _ _,World.size_alloc _ _⟩
 obtain⟨W2,s2,t2,b2,z2⟩:∃ W2,(∀ z:Array Value,z.size=21->(Instr.storeAt 47 (.pointer (some ⟨W1.heap.size,0,none⟩)) (tkV sm5 none 0)).run Tryz.prog (W1.alloc (.cells z 47)) = .ok () W2)/\W2.heap[W1.heap.size]?=some (tkO sm5 none 0)/\Below W1.heap.size W1 W2/\W2.heap.size=W1.heap.size+1:=⟨_,fun z hz=>st_new W1 z hz sm5 none 0,heap_al _ _,bel1 _ _,World.size_alloc _ _⟩
 obtain⟨W3,s3,t3,b3,z3⟩:∃ W3,(∀ z:Array Value,z.size=2->(Instr.storeAt 25 (.pointer (some ⟨W2.heap.size,0,none⟩)) (.agg #[.int .i64 6,.int .i64 0])).run Tryz.prog (W2.alloc (.cells z 25)) = .ok () W3)/\W3.heap[W2.heap.size]?=some (.cells #[.int .i64 6,.int .i64 0] 25)/\Below W2.heap.size W2 W3/\W3.heap.size=W2.heap.size+1:=⟨_,fun z hz=>run_storeAt_new W2 25 z _ infoSpP hz (by kernel_rfl),heap_al _ _,bel1 _ _,World.size_alloc _ _⟩
 obtain⟨W4,s4,t4,b4,z4⟩:∃ W4,(∀ z:Array Value,z.size=9->(Instr.storeAt 27 (.pointer (some ⟨W3.heap.size,0,none⟩)) (.agg #[.int .i64 8,.int .i64 6,.int .i64 0,.int .i64 6,.int .i64 2,.int .i64 6,.int .i64 4,.int .i64 6,.int .i64 6])).run Tryz.prog (W3.alloc (.cells z 27)) = .ok () W4)/\W4.heap[W3.heap.size]?=some (.cells #[.int .i64 8,.int .i64 6,.int .i64 0,.int .i64 6,.int .i64 2,.int .i64 6,.int .i64 4,.int .i64 6,.int .i64 6] 27)/\Below W3.heap.size W3 W4/\W4.heap.size=W3.heap.size+1:=⟨_,fun z hz=>run_storeAt_new W3 27 z _ infoHdP hz (by kernel_rfl),heap_al _ _,bel1 _ _,World.size_alloc _ _⟩
 obtain⟨W5,s5,t5,b5,z5⟩:∃ W5,(Instr.buildSlice 28 8 #[(0,tkV sm0 none 0),(1,tkV sm1 none 0),(2,tkV sm2 none 0),(3,tkV sm3 none 0),(4,tkV sm4 none 0),(5,tkV sm5 none 0),(6,tkV sm6 none 0),(7,tkV sm7 none 0)]).run Tryz.prog W4 = .ok (.slice (some ⟨W4.heap.size,0,none⟩) 8 8) W5/\W5.heap[W4.heap.size]?=some (.cells (tkCs smF.toks).toArray 47)/\Below W4.heap.size W4 W5/\W5.heap.size=W4.heap.size+1:=⟨_,sm_bs W4,heap_al _ _,bel1 _ _,World.size_alloc _ _⟩
 have c34:=b3.trans (b4.mono b3.size)
 have c24:=b2.trans (c34.mono b2.size)
 have l3:Hid _:=⟨(tk_of ((c24.block _ (by omega)).trans t1)).load⟩
 have l5:Hid _:=⟨(tk_of ((c34.block _ (by omega)).trans t2)).load⟩
 have lS:Hid ((Instr.loadAt 25 (.pointer (some ⟨W2.heap.size,0,none⟩))).run Tryz.prog W3 = .ok (.agg #[.int .i64 6,.int .i64 0]) W3):=⟨by
  simp only[Instr.loadAt,Instr.sureAddr,Sem.run_bind,Sem.run_pure,Result.andThen]
  exact run_loadVar_row _ _ _ _ _ _ _ t3 Tryz.underlying25 rfl infoSpP⟩
 have lH:Hid ((Instr.loadAt 27 (.pointer (some ⟨W3.heap.size,0,none⟩))).run Tryz.prog W4 = .ok (.agg #[.int .i64 8,.int .i64 6,.int .i64 0,.int .i64 6,.int .i64 2,.int .i64 6,.int .i64 4,.int .i64 6,.int .i64 6]) W4):=⟨by
  simp only[Instr.loadAt,Instr.sureAddr,Sem.run_bind,Sem.run_pure,Result.andThen]
  exact run_loadVar_row _ _ _ _ _ _ _ t4 Tryz.underlying27 rfl infoHdP⟩
 have c05:Below W0.heap.size W0 W5:=b1.trans ((c24.trans (b5.mono (by omega))).mono (by omega))
 have r5:W5.heap[w.heap.size]?=some J.zFo:=(c05.block _ (by omega)).trans hr0
 have SF:Hid _:=⟨fm_st r5 rfl smF (some ⟨W4.heap.size,0,none⟩) 8⟩
 have R5:Hid _:=⟨r5⟩
 have T5:Hid _:=⟨t5⟩
 have B5:Hid (Below w.heap.size w W5):=⟨hb0.trans (c05.mono (by omega))⟩
 have hne:Hid (W4.heap.size≠w.heap.size/\W4.heap.size<W5.heap.size):=⟨by omega⟩
 replace s1:=Hid.mk s1
 replace s2:=Hid.mk s2
 replace s3:=Hid.mk s3
 replace s4:=Hid.mk s4
 replace s5:=Hid.mk s5
 clear hb0 hr0 hs0 t1 b1 z1 t2 b2 z2 t3 b3 z3 t4 b4 z4 t5 b5 z5 c34 c24 c05 r5
 go_enter Tryz.func15,Tryz.ntmps15
 go_wp2_with (first
  | (guard_target =~ wpList _ _ _ (Oper.mk _ (Op.store 47 _ _) _ _ _ _::_) _ _;go_must (first|refine wpList_st 47 _ _ rfl rfl _ _ rfl rfl (s1.out _ rfl) ?_|refine wpList_st 47 _ _ rfl rfl _ _ rfl rfl (s2.out _ rfl) ?_);simp only[pts])
  | (guard_target =~ wpList _ _ _ (Oper.mk _ (Op.store 25 _ _) _ _ _ _::_) _ _;go_must (refine wpList_st 25 _ _ rfl rfl _ _ rfl rfl (s3.out _ rfl) ?_);simp only[pts])
  | (guard_target =~ wpList _ _ _ (Oper.mk _ (Op.store 27 _ _) _ _ _ _::_) _ _;go_must (refine wpList_st 27 _ _ rfl rfl _ _ rfl rfl (s4.out _ rfl) ?_);simp only[pts])
  | (guard_target =~ wpList _ _ _ (Oper.mk _ (Op.store 30 _ _) _ _ _ _::_) _ _;go_must (refine wpList_st 30 _ _ rfl rfl _ _ rfl rfl SF.out ?_);simp only[pts])
  | (guard_target =~ wpList _ _ _ (Oper.mk _ (Op.load 25 _) _ _ _ _::_) _ _;go_must (refine wpList_ld 25 _ rfl rfl _ _ rfl lS.out ?_);simp only[pts])
  | (guard_target =~ wpList _ _ _ (Oper.mk _ (Op.load 27 _) _ _ _ _::_) _ _;go_must (refine wpList_ld 27 _ rfl rfl _ _ rfl lH.out ?_);simp only[pts])
  | (guard_target =~ wpList _ _ _ (Oper.mk _ (Op.load 47 _) _ _ _ _::_) _ _;go_must (first|refine wpList_ld 47 _ rfl rfl _ _ rfl l3.out ?_|refine wpList_ld 47 _ rfl rfl _ _ rfl l5.out ?_);simp only[pts])
  | (guard_target =~ wpList _ _ _ (Oper.mk _ (Op.buildSlice 28 _ _) _ _ _ _::_) _ _;go_must (refine wpList_bs s5.out (by kernel_rfl) ?_);simp only[pts]))
 refine bodyPost_ret (results_cell_row rfl _ _ w.heap.size 30 _ (0,0) _ rfl (setRow_heap _ _ _ _ _ _ R5.out) Tryz.underlying30 rfl J.infoFm) rfl ⟨W4.heap.size,rfl,?_,?_⟩
 ·refine tkL_lit ((setRow_other _ _ _ _ hne.out.1).trans T5.out) ?_ (by decide) sm_toks
  rw[size_setRow]
  exact hne.out.2
 ·exact B5.out.trans ⟨rfl,rfl,rfl,by rw[size_setRow];exact Nat.le_refl _,fun k hk=>setRow_other _ _ _ _ (by omega)⟩
theorem KtR.rowAt {W:World} {B cp:Nat} {pp:Option Addr} {ks:List Ktp} {l:List Tk} (h:KtR W B (.slice pp ks.length cp) ks) (hl:ks.map Ktp.t=l) {i:Nat} {t:Tk} (ht:l[i]?=some t):∃ g pc cc,pp=some ⟨g,0,none⟩/\g<W.heap.size/\TkC W g (i*21) t pc cc:=by
 obtain⟨g,o,pc,cc,e,hg,hT,-,-⟩:=h.trow.c i t (by rw[hl];exact ht)
 rcases h.row.2 with ⟨e0,e1⟩|⟨g',cap',cur,e1,-⟩
 ·injection e0 with a b c
  rw[a] at e
  cases e
 ·injection e1 with a b c
  subst a
  cases e
  exact⟨_,pc,cc,rfl,hg,by simpa using hT⟩
theorem sm_t0:∃ t,(atF smF 0).toks[0]?=some t/\t.blk=4/\t.full=6:=by
 have h:=sm_at.2.2.2
 cases ht:(atF smF 0).toks[0]? with
 | none=>rw[ht] at h;cases h
 | some t =>
  rw[ht] at h
  simp only[Option.map_some,Option.some.injEq,Prod.mk.injEq] at h
  exact⟨t,rfl,h.1,h.2⟩
theorem sure_any (w:World) (kt:KT w) (mt:MT w):Calls Tryz.prog 4 #[] w fun r w'=>r = .returned (.bool true)/\Below w.heap.size w w':=by
 have CC:Hid (∀ w1 g,TkL w1 (some ⟨g,0,none⟩) w1.heap.size smF.toks->Below w.heap.size w w1->∃ W2,(∀ z:Array Value,z.size=13->(Instr.storeAt 30 (.pointer (some ⟨w1.heap.size,0,none⟩)) (fmV smF (some ⟨g,0,none⟩) 8)).run Tryz.prog (w1.alloc (.cells z 30)) = .ok () W2)/\(Instr.loadAt 30 (.pointer (some ⟨w1.heap.size,0,none⟩))).run Tryz.prog W2 = .ok (fmV smF (some ⟨g,0,none⟩) 8) W2 /\
   Calls Tryz.prog 6 #[fmV smF (some ⟨g,0,none⟩) 8,.int .i64 0] W2 fun e w3=>∃ gp cp' W4,e = .returned (.tuple #[fmV (atF smF 0) (some ⟨gp,0,none⟩) cp',.int .i64 0])/\(∀ z:Array Value,z.size=13->(Instr.storeAt 30 (.pointer (some ⟨w3.heap.size,0,none⟩)) (fmV (atF smF 0) (some ⟨gp,0,none⟩) cp')).run Tryz.prog (w3.alloc (.cells z 30)) = .ok () W4) /\
    W4.cell? ⟨w3.heap.size,2,none⟩=some (.int .i64 0)/\W4.cell? ⟨w3.heap.size,12,none⟩=some (.slice (some ⟨gp,0,none⟩) 5 cp')/\W4.cell? ⟨gp,14,none⟩=some (.int .i64 4)/\W4.cell? ⟨gp,15,none⟩=some (.int .i64 6)/\(Instr.loadAt 30 (.pointer (some ⟨w1.heap.size,0,none⟩))).run Tryz.prog W4 = .ok (fmV smF (some ⟨g,0,none⟩) 8) W4 /\
    Calls Tryz.prog 10 #[fmV smF (some ⟨g,0,none⟩) 8,.int .i64 4,.int .i64 1] W4 fun e w5=>e = .returned (.bool true)/\(Instr.loadAt 30 (.pointer (some ⟨w1.heap.size,0,none⟩))).run Tryz.prog w5 = .ok (fmV smF (some ⟨g,0,none⟩) 8) w5 /\
     Calls Tryz.prog 10 #[fmV smF (some ⟨g,0,none⟩) 8,.int .i64 4,.int .i64 0] w5 fun e w6=>e = .returned (.bool false)/\Hid (Below w.heap.size w w6)):=⟨fun w1 g tl hb=>by
  have b2:=bel1 w1 (fmO smF (some ⟨g,0,none⟩) 8)
  have h2:=heap_al w1 (fmO smF (some ⟨g,0,none⟩) 8)
  have z2:(w1.alloc (fmO smF (some ⟨g,0,none⟩) 8)).heap.size=w1.heap.size+1:=World.size_alloc _ _
  refine⟨_,fun z hz=>J.st_newF w1 z hz smF (some ⟨g,0,none⟩) 8,(J.fm_of h2).load,?_⟩
  generalize w1.alloc (fmO smF (some ⟨g,0,none⟩) 8)=W2 at b2 h2 z2
  have hb2:=hb.trans (b2.mono hb.size)
  have tl2:=(tl.below b2).mono b2.size
  have hlm:smF.toks.length*192<=140737488351232:=by decide
  have P:∀ W,Below W2.heap.size W2 W->PCk W smF (some ⟨g,0,none⟩) 8/\TkL W (some ⟨g,0,none⟩) W.heap.size smF.toks:=fun W hW=>by
   have hx:=hb2.trans (hW.mono hb2.size)
   have t:=(tl2.below hW).mono hW.size
   exact⟨pCk_of _ _ _ _ t (kt.up hx) (mt.below mt.pos hx),t⟩
  refine(pAt_any (P W2 (Below.refl _ _)).1 tl2 hlm 0).mono fun e w3 hP=>?_
  obtain⟨pp',cp',ks,e1,e2,e3,e4⟩:=hP
  have hG:atG smF 0=atF smF 0:=by unfold atG;rw[if_pos sm_at.1]
  rw[hG,sm_at.1] at e1
  rw[hG] at e2
  obtain⟨t,ht,hbk,hfu⟩:=sm_t0
  obtain⟨gp,pc,cc,rfl,hgp,hT⟩:=e3.rowAt e2 ht
  have b4:=bel1 w3 (fmO (atF smF 0) (some ⟨gp,0,none⟩) cp')
  have h4:=heap_al w3 (fmO (atF smF 0) (some ⟨gp,0,none⟩) cp')
  have z4:(w3.alloc (fmO (atF smF 0) (some ⟨gp,0,none⟩) cp')).heap.size=w3.heap.size+1:=World.size_alloc _ _
  have hT4:=hT.below hgp b4
  rw[Nat.zero_mul] at hT4
  have hb4:=e4.trans (b4.mono e4.size)
  have k14:=hT4.c14
  have k15:=hT4.c15
  rw[hbk] at k14
  rw[hfu] at k15
  refine⟨gp,cp',_,e1,fun z hz=>J.st_newF w3 z hz (atF smF 0) (some ⟨gp,0,none⟩) cp',cell_at h4 2,?_,by simpa using k14,by simpa using k15,(J.fm_of ((hb4.block _ (by omega)).trans h2)).load,?_⟩
  ·refine(cell_at h4 12).trans ?_
   show some (Value.slice _ (atF smF 0).toks.length _)=_
   rw[sm_at.2.2.1]
  ·obtain⟨p1,p2⟩:=P _ hb4
   refine(pLives_any p1 p2 hlm 4 1).mono fun e w5 hP=>?_
   obtain⟨rfl,b5⟩:=hP
   have hb5:=hb4.trans (b5.mono hb4.size)
   obtain⟨p1,p2⟩:=P _ hb5
   refine⟨by rw[sm_liv.1],(J.fm_of ((hb5.block _ (by omega)).trans h2)).load,(pLives_any p1 p2 hlm 4 0).mono fun e w6 hP=>?_⟩
   obtain⟨rfl,b6⟩:=hP
   exact⟨by rw[sm_liv.2],⟨hb2.trans ((hb5.trans (b6.mono hb5.size)).mono hb2.size)⟩⟩⟩
 have cM:=small_any w
 clear kt mt
 go_enter Tryz.func4,Tryz.ntmps4
 go_wp2_with (first
  | (go_at_call 15;refine cM.mono ?_;rintro _ w1 ⟨g,rfl,tl,hb⟩;obtain⟨W2,s2,l2,cA⟩:=CC.out w1 g tl hb;replace s2:=Hid.mk s2;replace l2:=Hid.mk l2;clear tl hb)
  | (go_at_call 6;refine cA.mono ?_;rintro _ w3 ⟨gp,cp',W4,rfl,s4,y2,y12,y14,y15,l4,cL⟩;replace s4:=Hid.mk s4;replace l4:=Hid.mk l4)
  | (go_at_call 10;refine cL.mono ?_;rintro _ w5 ⟨rfl,l6,cN⟩;replace l6:=Hid.mk l6;clear cL)
  | (go_at_call 10;refine cN.mono ?_;rintro _ w6 ⟨rfl,hF⟩)
  | (guard_target =~ wpList _ _ _ (Oper.mk _ (Op.load 30 _) _ _ _ _::_) _ _;go_must (first|refine wpList_ld 30 _ rfl rfl _ _ rfl l2.out ?_|refine wpList_ld 30 _ rfl rfl _ _ rfl l4.out ?_|refine wpList_ld 30 _ rfl rfl _ _ rfl l6.out ?_);simp only[pts])
  | (guard_target =~ wpList _ _ _ (Oper.mk _ (Op.store 30 _ _) _ _ _ _::_) _ _;go_must (first|refine wpList_st 30 _ _ rfl rfl _ _ rfl rfl (s2.out _ rfl) ?_|refine wpList_st 30 _ _ rfl rfl _ _ rfl rfl (s4.out _ rfl) ?_);simp only[pts]))
 go_ret
 exact⟨rfl,hF.out⟩
theorem ext_lt:∀ {a b:List Int},a.Pairwise (· < ·)->b.Pairwise (· < ·)->(∀ x,x∈a↔x∈b)->a=b
 | [],[],_,_,_=>rfl
 | [],y::b,_,_,h=>by have:=(h y).2 (List.mem_cons_self ..);cases this
 | x::a,[],_,_,h=>by have:=(h x).1 (List.mem_cons_self ..);cases this
 | x::a,y::b,ha,hb,h=>by
  obtain⟨a1,a2⟩:=List.pairwise_cons.1 ha
  obtain⟨b1,b2⟩:=List.pairwise_cons.1 hb
  have e:x=y:=by
   have h1:=(h x).1 (List.mem_cons_self ..)
   have h2:=(h y).2 (List.mem_cons_self ..)
   rcases List.mem_cons.1 h1 with h1|h1
   ·exact h1
   rcases List.mem_cons.1 h2 with h2|h2
   ·exact h2.symm
   have:=a1 y h2
   have:=b1 x h1
   omega
  subst e
  congr 1
  refine ext_lt a2 b2 fun z=>⟨fun hz=>?_,fun hz=>?_⟩
  ·rcases List.mem_cons.1 ((h z).1 (List.mem_cons_of_mem _ hz)) with e|e
   ·have:=a1 z hz;omega
   ·exact e
  ·rcases List.mem_cons.1 ((h z).2 (List.mem_cons_of_mem _ hz)) with e|e
   ·have:=b1 z hz;omega
   ·exact e
theorem sort_lt {ks:List Int} (hn:ks.Nodup):(ks.mergeSort fun x y=>decide (x<=y)).Pairwise (· < ·):=by
 have h1:(ks.mergeSort fun x y=>decide (x<=y)).Pairwise (fun a b=>decide (a<=b)=true):=List.pairwise_mergeSort (fun a b c h1 h2=>by simp at *;omega) (fun a b=>by simp;omega) ks
 have h2:(ks.mergeSort fun x y=>decide (x<=y)).Nodup:=(List.mergeSort_perm ks _).nodup_iff.2 hn
 have h3:=List.Pairwise.and h1 h2
 exact h3.imp fun {a b} h=>by
  have e1:=of_decide_eq_true h.1
  have e2:a≠b:=h.2
  omega
def verL (f:Fm):List Nat:=(List.range (f.ver.toNat+1)).filter fun v=>(camZ f).contains v
theorem verL_lt (f:Fm):((verL f).map (fun n:Nat=>(n:Int))).Pairwise (· < ·):=by
 rw[List.pairwise_map]
 have h:(List.range (f.ver.toNat+1)).Pairwise (· < ·):=List.pairwise_lt_range
 exact(List.Pairwise.sublist List.filter_sublist h).imp fun h=>by omega
theorem ver_sort {f:Fm} (hv:0<=f.ver) {ks:List Int} (hn:ks.Nodup) (hm:∀ x:Int,x∈ks↔∃ c∈camZ f,x=(c:Int)/\(c:Int)<=f.ver):(ks.mergeSort fun x y=>decide (x<=y))=(verL f).map fun n:Nat=>(n:Int):=by
 refine ext_lt (sort_lt hn) (verL_lt f) fun x=>?_
 rw[List.mem_mergeSort,hm]
 unfold verL
 simp only[List.mem_map,List.mem_filter,List.mem_range,List.contains_iff_mem]
 constructor
 ·rintro⟨c,h1,rfl,h2⟩
  exact⟨c,⟨by omega,h1⟩,rfl⟩
 ·rintro⟨c,⟨h1,h2⟩,rfl⟩
  exact⟨c,h2,rfl,by omega⟩
def _root_.Go.Proofs.Tryz.lays189_ren:Go.Shelf.Ren:=⟨fun|189=>38|125=>62|257=>61|128=>82|129=>83|294=>73|295=>74|296=>75|297=>76|298=>77|299=>78|216=>79|300=>80|301=>81|328=>111|329=>112|330=>113|331=>114|332=>115|215=>116|343=>139|n=>n,fun|28=>38|3=>3|46=>92|0=>0|51=>126|53=>44|4=>4|183=>118|182=>117|131=>123|5=>5|9=>9|218=>139|222=>143|228=>156|229=>157|n=>n,fun|n=>n⟩
theorem _root_.Go.Proofs.Tryz.lays189:Go.Proofs.Lays.n189 Tryz.prog Tryz.lays189_ren:={
 mixed:=by kernel_rfl
 f125:=Tryz.func62.trans (congrArg some (by kernel_rfl))
 f128:=Tryz.func82.trans (congrArg some (by kernel_rfl))
 f129:=Tryz.func83.trans (congrArg some (by kernel_rfl))
 f189:=Tryz.func38.trans (congrArg some (by kernel_rfl))
 f215:=Tryz.func116.trans (congrArg some (by kernel_rfl))
 f216:=Tryz.func79.trans (congrArg some (by kernel_rfl))
 f257:=Tryz.func61.trans (congrArg some (by kernel_rfl))
 f294:=Tryz.func73.trans (congrArg some (by kernel_rfl))
 f295:=Tryz.func74.trans (congrArg some (by kernel_rfl))
 f296:=Tryz.func75.trans (congrArg some (by kernel_rfl))
 f297:=Tryz.func76.trans (congrArg some (by kernel_rfl))
 f298:=Tryz.func77.trans (congrArg some (by kernel_rfl))
 f299:=Tryz.func78.trans (congrArg some (by kernel_rfl))
 f300:=Tryz.func80.trans (congrArg some (by kernel_rfl))
 f301:=Tryz.func81.trans (congrArg some (by kernel_rfl))
 f328:=Tryz.func111.trans (congrArg some (by kernel_rfl))
 f329:=Tryz.func112.trans (congrArg some (by kernel_rfl))
 f330:=Tryz.func113.trans (congrArg some (by kernel_rfl))
 f331:=Tryz.func114.trans (congrArg some (by kernel_rfl))
 f332:=Tryz.func115.trans (congrArg some (by kernel_rfl))
 f343:=Tryz.func139.trans (congrArg some (by kernel_rfl))
 t0:=Tryz.underlying0
 a0:=Tryz.isAgg0
 z0:=Tryz.sizeOf0
 v0:=Tryz.zeroValue0
 t3:=Tryz.underlying3
 a3:=Tryz.isAgg3
 z3:=Tryz.sizeOf3
 v3:=Tryz.zeroValue3
 t4:=Tryz.underlying4
 a4:=Tryz.isAgg4
 z4:=Tryz.sizeOf4
 v4:=Tryz.zeroValue4
 t5:=Tryz.underlying5
 a5:=Tryz.isAgg5
 z5:=Tryz.sizeOf5
 v5:=Tryz.zeroValue5
 t9:=Tryz.underlying9
 a9:=Tryz.isAgg9
 z9:=Tryz.sizeOf9
 v9:=Tryz.zeroValue9
 t28:=Tryz.underlying38
 a28:=Tryz.isAgg38
 z28:=Tryz.sizeOf38
 v28:=Tryz.zeroValue38
 t46:=Tryz.underlying92
 a46:=Tryz.isAgg92
 z46:=Tryz.sizeOf92
 v46:=Tryz.zeroValue92
 t51:=Tryz.underlying126
 a51:=Tryz.isAgg126
 z51:=Tryz.sizeOf126
 v51:=Tryz.zeroValue126
 t53:=Tryz.underlying44
 a53:=Tryz.isAgg44
 z53:=Tryz.sizeOf44
 v53:=Tryz.zeroValue44
 t131:=Tryz.underlying123
 a131:=Tryz.isAgg123
 z131:=Tryz.sizeOf123
 v131:=Tryz.zeroValue123
 t182:=Tryz.underlying117
 a182:=Tryz.isAgg117
 z182:=Tryz.sizeOf117
 v182:=Tryz.zeroValue117
 t183:=Tryz.underlying118
 a183:=Tryz.isAgg118
 z183:=Tryz.sizeOf118
 v183:=Tryz.zeroValue118
 t218:=Tryz.underlying139
 a218:=Tryz.isAgg139
 z218:=Tryz.sizeOf139
 v218:=Tryz.zeroValue139
 t222:=Tryz.underlying143
 a222:=Tryz.isAgg143
 z222:=Tryz.sizeOf143
 v222:=Tryz.zeroValue143
 t228:=Tryz.underlying156
 a228:=Tryz.isAgg156
 z228:=Tryz.sizeOf156
 v228:=Tryz.zeroValue156
 t229:=Tryz.underlying157
 a229:=Tryz.isAgg157
 z229:=Tryz.sizeOf157
 v229:=Tryz.zeroValue157 }
open Go.Sort
theorem sortN0 (blk cap:Nat) (zs:List Int) (w:World) (hH:Holds (Value.int .i64) w blk 0 zs.toArray) (hblk:blk<w.heap.size) (hsz:zs.length<4611686018427387904) :
  Calls Tryz.prog 38 #[.slice (some ⟨blk,0,none⟩) zs.length cap] w fun e w' =>
   e = .returned (.tuple #[])/\∃ n os,w'=grow (putRow (Value.int .i64) (Sort.ahead w n) blk 0 (zs.mergeSort fun x y=>decide (x<=y)).toArray) os :=
 calls_of_every_depth fun D=>AnyS.slices_Sort_int_in Tryz.lays189 D blk 0 cap zs w hH hblk hsz
theorem sortN {w:World} {base g cap:Nat} {ns ts:List Nat} (h:NRow w base (.slice (some ⟨g,0,none⟩) ns.length cap) ns) (hts:((ns.map fun n:Nat=>(n:Int)).mergeSort fun x y=>decide (x<=y))=ts.map fun n:Nat=>(n:Int)) (hl:ns.length<=1000000000000) :
  Calls Tryz.prog 38 #[.slice (some ⟨g,0,none⟩) ns.length cap] w fun e w'=>e = .returned (.tuple #[])/\NRow w' base (.slice (some ⟨g,0,none⟩) ns.length cap) ts/\Below base w w':=by
 rcases h.2 with ⟨e0,_⟩|⟨g',cap',cur,e1,h1,h2,h3,h4,h5,h6⟩
 ·cases e0
 ·cases e1
  have hlen:ts.length=ns.length:=by
   have:=congrArg List.length hts
   simpa using this.symm
  have hm:ns.map cI=(ns.map fun n:Nat=>(n:Int)).map (Value.int .i64):=by rw[List.map_map];rfl
  have hm2:ts.map cI=(ts.map fun n:Nat=>(n:Int)).map (Value.int .i64):=by rw[List.map_map];rfl
  have hH:Holds (Value.int .i64) w g 0 (ns.map fun n:Nat=>(n:Int)).toArray:=holds_of_blockI h2 (by rw[<- hm,<- h6,List.length_map,Nat.mul_one])
  have hgl:g<w.heap.size:=(Array.getElem?_eq_some_iff.1 h2).1
  have hc:=sortN0 g cap _ w hH hgl (by rw[List.length_map];omega)
  rw[List.length_map] at hc
  refine hc.mono ?_
  rintro e w' ⟨rfl,n,os,rfl⟩
  rw[hts]
  have hg:=grownBy_sortedI (w:=w) (g:=g) (n:=n) (os:=os) (ts.map fun n:Nat=>(n:Int)).toArray
  refine⟨rfl,?_,⟨hg.os,hg.tape,hg.output,hg.size,fun k hk=>hg.block k (by omega) (fun e=>by cases e;omega)⟩⟩
  unfold NRow
  have hr:=ownsRow_sortedI (w:=w) (base:=base) (n:=n) (os:=os) (ss:=ns.map fun n:Nat=>(n:Int)) (ts:=ts.map fun n:Nat=>(n:Int)) (by simp[hlen]) h1 h2 (by simpa using h3) h4 h5
  rw[List.length_map] at hr
  rw[hm2,hlen]
  exact hr
end Go.Proofs.YtkcjdncchoohoaaGreatDoor

import Derived.Test.YtbhmciieiilcfaaGreatDoorK27
namespace Go.Proofs.YtbhmciieiilcfaaGreatDoor
set_option maxRecDepth 1000000
set_option maxHeartbeats 16000000
open Go.ChangeShapes Go.WideShapes Go.ChangeAt Go.RowKit Go.Shelf Go.Maps
variable {E:List Nat} {a b:Nat} {f:Fm} {s:Ms} {w w':World}
theorem own_any (w:World):Calls Tryz.prog 16 #[] w fun r w'=>∃ g,r = .returned (fmV ownF (some ⟨g,0,none⟩) 14)/\TkL w' (some ⟨g,0,none⟩) w'.heap.size ownL/\Below w.heap.size w w':=by
 have hB:Hid (Below (w.alloc zFm).heap.size (w.alloc zFm) (w.alloc zFm)):=⟨Below.refl _ _⟩
 go_enter Tryz.func16,Tryz.ntmps16
 go_upto_region 3 with (go_at_call 42;refine(own1_any _ _ _).mono ?_;rintro _ w1 ⟨rfl,hb1⟩;replace hB:Hid (Below (w.alloc zFm).heap.size (w.alloc zFm) w1):=⟨hB.out.trans (hb1.mono hB.out.size)⟩;clear hb1)
 have hH:(w1.alloc oHd).heap[w1.heap.size]?=some oHd:=heap_al _ _
 have hs1:(w1.alloc oHd).heap.size=w1.heap.size+1:=World.size_alloc _ _
 replace hB:Hid (Below (w.alloc zFm).heap.size (w.alloc zFm) (w1.alloc oHd)):=⟨hB.out.alloc hB.out.size _⟩
 generalize w1.alloc oHd=W1 at hH hs1 hB ⊢
 replace hs1:=Hid.mk hs1
 replace hH:=Hid.mk hH
 go_upto_region 4 with (guard_target =~ wpList _ _ _ (Oper.mk _ (Op.store 83 _ _) _ _ _ _::_) _ _;go_must (refine wpList_st 83 (.tmp 3) (.tmp 14) rfl rfl _ _ rfl rfl (st_new W1 _ rfl oU none 0) ?_);simp only[pts])
 have hu:(W1.alloc (tkO oU none 0)).heap[W1.heap.size]?=some (tkO oU none 0):=heap_al _ _
 have hs2:Hid ((W1.alloc (tkO oU none 0)).heap.size=W1.heap.size+1):=⟨World.size_alloc _ _⟩
 replace hB:Hid (Below (w.alloc zFm).heap.size (w.alloc zFm) (W1.alloc (tkO oU none 0))):=⟨hB.out.alloc hB.out.size _⟩
 replace hH:Hid ((W1.alloc (tkO oU none 0)).heap[w1.heap.size]?=some oHd):=⟨((bel1 W1 (tkO oU none 0)).block _ (by have:=hs1.out;omega)).trans hH.out⟩
 obtain⟨p,p0,pB,pI,pN,pL⟩:=clsO1 _ _ _ hu
 generalize W1.alloc (tkO oU none 0)=W2 at hs2 hB hH p0 pB pI
 have cK:Hid (∀ W,p W->∀ a b:Int,Calls Tryz.prog 42 #[.int .i64 a,.int .i64 b] W fun r w'=>r = .returned (.agg #[.int .i64 a,.int .i64 b])/\p w'):=⟨fun W hW a b=>(own1_any a b W).mono fun r w' ⟨h1,h2⟩=>⟨h1,pI _ ((pB _ hW).trans (h2.mono (pB _ hW).size))⟩⟩
 clear hu
 refine wp_region_pp p [0,1,2,3,4,6,9,10,11,12,15,16,17,20,21,5,7,8,13,14,18,19,22,23] (by kernel_rfl) (by kernel_rfl) (fun _ _ d _ _ h=>by cases d<;>exact h) p0 ?_
 simp only[List.filterMap_cons,List.filterMap_nil,List.getElem?_cons_zero,List.getElem?_cons_succ]
 have hp:=p0
 generalize W2.drew=W at hp ⊢
 repeat (first|(guard_target =~ Lx _ _ _ _ (Oper.mk _ (Op.load 83 _) _ _ _ _::_) _ _;refine lx_ldO pL rfl rfl ?_;simp only[pts])|(guard_target =~ Lx _ _ _ _ (Oper.mk _ (Op.call _) _ _ _ _::_) _ _;refine lx_callw ent_own1 (cK.out W hp _ _) rfl rfl rfl (by rfl) ?_;intro W hp;refine⟨⟨⟨W,hp⟩,rfl⟩,?_⟩;simp only[pts])|(refine lx_one rfl ?_;(first|go_big_quiet_skip|(go_big_quiet_want;go_big_quiet_op;go_big_quiet_on));refine wpQuiet_nil ?_))
 refine lx_bs (own_bs W) ⟨⟨_,pI _ ((pB _ hp).trans ((bel1 W _).mono (pB _ hp).size))⟩,rfl⟩ (by kernel_rfl) (by rfl) ?_
 simp only[pts]
 refine lx_one rfl ?_
 (first|go_big_quiet_skip|(go_big_quiet_want;go_big_quiet_op;go_big_quiet_on))
 refine wpQuiet_nil ?_
 refine lx_done ?_
 have g3:(W.alloc (.cells (tkCs own0).toArray 83)).heap[W.heap.size]?=some (.cells (tkCs own0).toArray 83):=heap_al _ _
 have B3:Below W2.heap.size W2 (W.alloc (.cells (tkCs own0).toArray 83)):=(pB _ hp).trans ((bel1 W _).mono (pB _ hp).size)
 have hWs:=(pB _ hp).size
 have e1:=hs1.out
 have e2:=hs2.out
 have e3:=hB.out.size
 have e4:(w.alloc zFm).heap.size=w.heap.size+1:=World.size_alloc _ _
 generalize W.alloc (.cells (tkCs own0).toArray 83)=W3 at g3 B3
 have c62:W3.cell? ⟨W.heap.size,62,none⟩=some (.int .i64 0):=(cell_at g3 62).trans own_62
 have z62:W3.frozen? ⟨W.heap.size,62,none⟩=false:=by simp only[World.frozen?,g3];simp
 have g4:=cellSet g3 62 (.int .i64 2)
 have c146:(W3.setCell ⟨W.heap.size,62,none⟩ (.int .i64 2)).cell? ⟨W.heap.size,146,none⟩=some (.int .i64 0):=(cell_at g4 146).trans own_146
 have z146:(W3.setCell ⟨W.heap.size,62,none⟩ (.int .i64 2)).frozen? ⟨W.heap.size,146,none⟩=false:=by simp only[World.frozen?,g4];simp
 have g5:=cellSet g4 146 (.int .i64 6)
 rw[own_sets] at g5
 have H5:((W3.setCell ⟨W.heap.size,62,none⟩ (.int .i64 2)).setCell ⟨W.heap.size,146,none⟩ (.int .i64 6)).heap[w1.heap.size]?=some oHd:=((heap_setCell_other _ ⟨W.heap.size,146,none⟩ w1.heap.size _ (by show w1.heap.size≠W.heap.size;omega)).trans (heap_setCell_other _ ⟨W.heap.size,62,none⟩ w1.heap.size _ (by show w1.heap.size≠W.heap.size;omega))).trans ((B3.block _ (by omega)).trans hH.out)
 have Z5:((W3.setCell ⟨W.heap.size,62,none⟩ (.int .i64 2)).setCell ⟨W.heap.size,146,none⟩ (.int .i64 6)).heap[w.heap.size]?=some zFm:=((heap_setCell_other _ ⟨W.heap.size,146,none⟩ w.heap.size _ (by show w.heap.size≠W.heap.size;omega)).trans (heap_setCell_other _ ⟨W.heap.size,62,none⟩ w.heap.size _ (by show w.heap.size≠W.heap.size;omega))).trans ((B3.block _ (by omega)).trans ((hB.out.block _ (by omega)).trans (heap_al _ _)))
 have B5:Below w.heap.size w ((W3.setCell ⟨W.heap.size,62,none⟩ (.int .i64 2)).setCell ⟨W.heap.size,146,none⟩ (.int .i64 6)):=(((((bel1 w zFm).trans (hB.out.mono (by omega))).trans (B3.mono (by omega))).setCell (p:=⟨W.heap.size,62,none⟩) (by show w.heap.size<=W.heap.size;omega) _).setCell (p:=⟨W.heap.size,146,none⟩) (by show w.heap.size<=W.heap.size;omega) _)
 have hne:Hid (w.heap.size≠W.heap.size):=⟨by omega⟩
 replace g5:=Hid.mk g5
 replace H5:=Hid.mk H5
 replace Z5:=Hid.mk Z5
 replace B5:=Hid.mk B5
 clear g3 g4 B3 hWs e1 e2 e3 e4 hH hs1 hs2 hB p0 pB pI pN pL cK hp
 go_upto_region 7 with fail
 generalize (W3.setCell ⟨W.heap.size,62,none⟩ (.int .i64 2)).setCell ⟨W.heap.size,146,none⟩ (.int .i64 6)=W5 at g5 H5 Z5 B5
 clear c62 z62 c146 z146
 go_wp2_with (first
  | (guard_target =~ wpList _ _ _ (Oper.mk _ (Op.load 27 _) _ _ _ _::_) _ _;go_must (refine wpList_ld 27 (.tmp 2) rfl rfl _ _ rfl (hd_ld H5.out) ?_);simp only[pts])
  | (guard_target =~ wpList _ _ _ (Oper.mk _ (Op.store 30 _ _) _ _ _ _::_) _ _;go_must (refine wpList_st 30 (.tmp 0) (.tmp 46) rfl rfl _ _ rfl rfl (fm_st Z5.out rfl ownF (some ⟨W.heap.size,0,none⟩) 14) ?_);simp only[pts]))
 refine bodyPost_ret (results_cell_row rfl _ _ w.heap.size 30 _ (0,0) _ rfl (setRow_heap _ _ _ _ _ _ Z5.out) Tryz.underlying30 rfl infoFmO) rfl ⟨W.heap.size,rfl,?_,?_⟩
 ·refine tkL_lit ((setRow_other _ _ _ _ hne.out.symm).trans g5.out) ?_ (by decide) own_toks
  rw[size_setRow]
  exact(Array.getElem?_eq_some_iff.1 g5.out).1
 ·exact B5.out.trans ⟨rfl,rfl,rfl,by rw[size_setRow];exact Nat.le_refl _,fun k hk=>setRow_other _ _ _ _ (by omega)⟩
def Mo (f:Fm) (b:Nat) (E:List Nat) (w:World) (a:Nat) (s:Ms):Prop:=∃ U,Mc f w a s U/\∀ k,U k->b<=k/\k∉E
theorem Mo.below (h:Mo f b E w a s) (hb:Below w.heap.size w w'):Mo f b E w' a s:=by
 obtain⟨U,h1,h2⟩:=h
 exact⟨U,h1.below hb,h2⟩
theorem Mo.add {B:Nat} (h:Mo f b E w a s) (hB:w.heap.size<=B):Mo f b (B::E) w a s:=by
 obtain⟨U,h1,h2⟩:=h
 refine⟨U,h1,fun k hk=>⟨(h2 k hk).1,?_⟩⟩
 have h3:=h1.lt k hk
 have h4:=(h2 k hk).2
 simp only[List.mem_cons,not_or]
 exact⟨by omega,h4⟩
theorem Mo.new (hb:b<=w.heap.size) (hm:Mc f w' a newZ (fun k=>w.heap.size<=k/\k<w'.heap.size)):Mo f b [] w' a newZ :=
 ⟨_,hm,fun _ hk=>⟨Nat.le_trans hb hk.1,by simp⟩⟩
theorem Mo.done (h:Mo f b E w a s) {v:Bool} (hb:doneB f.toks s=v):Calls Tryz.prog 17 #[.pointer (some ⟨a,0,none⟩)] w fun r w'=>r = .returned (.bool v)/\Mo f b E w' a s/\Below w.heap.size w w':=by
 obtain⟨U,h1,h2⟩:=h
 subst hb
 exact(Done_mc h1).mono fun r w' ⟨e,hb⟩=>⟨e,Mo.below ⟨U,h1,h2⟩ hb,hb⟩
theorem Mo.inside (h:Mo f b E w a s) {n:Nat} (hn:insZ s=n):Calls Tryz.prog 20 #[.pointer (some ⟨a,0,none⟩)] w fun r w'=>r = .returned (.int .i64 (n:Int))/\Mo f b E w' a s/\Below w.heap.size w w':=by
 obtain⟨U,h1,h2⟩:=h
 subst hn
 exact(Inside_mc h1).mono fun r w' ⟨e,hb⟩=>⟨e,Mo.below ⟨U,h1,h2⟩ hb,hb⟩
theorem Mo.left (h:Mo f b E w a s) {ns:List Nat} (hn:lfZ s=ns):Calls Tryz.prog 19 #[.pointer (some ⟨a,0,none⟩)] w fun r w'=>∃ pp cp,r = .returned (.slice pp ns.length cp)/\NSl w' pp ns/\Mo f b E w' a s/\Below w.heap.size w w':=by
 obtain⟨U,h1,h2⟩:=h
 subst hn
 refine(Left_mc h1).mono ?_
 rintro r w' ⟨v,e,hN,hb⟩
 obtain⟨pp,cp,rfl,hs⟩:=hN.sl
 exact⟨pp,cp,e,hs,Mo.below ⟨U,h1,h2⟩ hb,hb⟩
theorem Mo.step (hz:chkZ f=none) (hl:f.toks.length<=733007751850) {s':Ms} {e:Int} (c:Cl) (h:Mo f b E w a s) (hb:b<=w.heap.size) (hE:∀ k∈E,k<w.heap.size) (hco:i64ok c.cnt) (hnm:c.nm.size<=maxLen) (h1:(stepZ f.toks s c.k c.cnt c.nm).1=e) (h2:(stepZ f.toks s c.k c.cnt c.nm).2=s') :
  Calls Tryz.prog 9 #[.pointer (some ⟨a,0,none⟩),caV c] w fun r w'=>r = .returned (.int .i64 e)/\Mo f b E w' a s'/\Below b w w'/\∀ k∈E,w'.heap[k]?=w.heap[k]?:=by
 obtain⟨U,q1,q2⟩:=h
 subst h1 h2
 refine(Step_mc f hz hl a s U c w q1 hco hnm).mono ?_
 rintro r w' ⟨e,hm,hf⟩
 refine⟨e,⟨grw U w w',hm,fun k hk=>?_⟩,hf.below (fun k hk=>(q2 k hk).1) hb,fun k hk=>hf.block k (hE k hk) fun hU=>(q2 k hU).2 hk⟩
 rcases hk with hk|hk
 ·exact q2 k hk
 ·exact⟨Nat.le_trans hb hk.1,fun hm=>by have:=hE k hm;omega⟩
theorem NSl.mk1 (w:World) (n:Nat):NSl (w.alloc (.cells #[.int .i64 (n:Int)] 3)) (some ⟨w.heap.size,0,none⟩) [n]:=fun i m hi=>by
 cases i with
 | zero =>
  cases hi
  exact⟨w.heap.size,rfl,by rw[World.size_alloc];omega,cell_at (heap_al _ _) 0⟩
 | succ i=>cases hi
def ocC (c:Oc):List Value:=[.int .i64 c.k,.string c.nm,.slice none 0 0,.int .i64 c.cnt,.string ⟨#[]⟩]
def ocCs:List Oc->List Value
 | []=>[]
 | c::r=>ocC c++ocCs r
theorem ocCs_get:∀ (l:List Oc) (i:Nat) (t:Oc),l[i]?=some t->∀ j,j<5->(ocCs l)[i*5+j]?=(ocC t)[j]?
 | [],_,_,h,_,_=>by cases h
 | a::r,0,t,h,j,hj=>by
  cases h
  rw[ocCs,Nat.zero_mul,Nat.zero_add,List.getElem?_append_left (by show j<5;omega)]
 | a::r,i+1,t,h,j,hj=>by
  have ih:=ocCs_get r i t h j hj
  have hl:(ocC a).length=5:=rfl
  rw[ocCs,List.getElem?_append_right (by omega),hl,<- ih]
  congr 1
  omega
theorem own_nm:∀ c∈ownC,i64ok c.cnt/\c.nm.size<=maxLen:=by
 have h:ownC.all (fun c=>iB c.cnt&&decide (c.nm.size<=maxLen))=true:=by decide +kernel
 intro c hc
 have:=List.all_eq_true.1 h c hc
 simp only[Bool.and_eq_true,iB,decide_eq_true_eq] at this
 exact this
theorem runs_any (w:World) (kt:KT w) (mt:MT w):Calls Tryz.prog 6 #[] w fun r w'=>r = .returned (.bool true)/\Below w.heap.size w w':=by
 have cNew:Hid (∀ (W:World) (g:Nat),Below w.heap.size w W->TkL W (some ⟨g,0,none⟩) W.heap.size ownL->Calls Tryz.prog 5 #[fmV ownF (some ⟨g,0,none⟩) 14] W fun r w'=>∃ a,r = .returned (.tuple #[.pointer (some ⟨a,0,none⟩),.int .i64 0])/\Mo ownF w.heap.size [] w' a newZ/\Below w.heap.size w w'):=⟨fun W g hb tl=>(New_mc ownF (some ⟨g,0,none⟩) 14 W (chkC_of ownF _ 14 W tl (kt.up hb) (mt.below mt.pos hb)) tl own_chk).mono fun r w' ⟨a,e,hm,hb'⟩=>⟨a,e,Mo.new hb.size hm,hb.trans (hb'.mono hb.size)⟩⟩
 have hL:Hid (ownF.toks.length<=733007751850):=⟨by decide⟩
 have h0:Hid (i64ok 0):=⟨⟨by decide,by decide⟩⟩
 have hn0:Hid ((⟨#[]⟩:ByteArray).size<=maxLen):=⟨by decide⟩
 have hn1:Hid ((⟨#[100]⟩:ByteArray).size<=maxLen):=⟨by decide⟩
 have hr0:Hid ((stepZ ownF.toks newZ 2 0 ⟨#[]⟩).2=newZ):=⟨stepZ_err _ _ _ _ _ (by have h:=own_r0;intro e;have h':(stepZ ownF.toks newZ 2 0 ⟨#[]⟩).1=140:=h;rw[h'] at e;exact absurd e (by decide))⟩
 clear kt mt
 go_enter Tryz.func6,Tryz.ntmps6
 go_upto_region 5 with (first
  | (go_at_call 16;refine(own_any _).mono ?_;rintro _ w1 ⟨g,rfl,tl1,hb1⟩;have cN:=cNew.out w1 g hb1 tl1;clear tl1 hb1)
  | (go_at_call 5;refine cN.mono ?_;rintro _ w2 ⟨a,rfl,hM,hB⟩;replace hM:=Hid.mk hM;replace hB:=Hid.mk hB;clear cN)
  | (go_at_call 17;refine(hM.out.done own_d0).mono ?_;rintro _ w3 ⟨rfl,hM3,hb3⟩;replace hM:Hid _:=⟨hM3⟩;replace hB:Hid (Below w.heap.size w w3):=⟨hB.out.trans (hb3.mono hB.out.size)⟩;clear hM3 hb3)
  | (go_at_call 9;refine(hM.out.step own_chk hL.out ⟨2,⟨#[]⟩,.slice none 0 0,0,⟨#[]⟩⟩ hB.out.size (by simp) h0.out hn0.out own_r0 hr0.out).mono ?_;rintro _ w4 ⟨rfl,hM3,hb3,-⟩;replace hM:Hid _:=⟨hM3⟩;replace hB:Hid (Below w.heap.size w w4):=⟨hB.out.trans hb3⟩;clear hM3 hb3))
 have hC:(w4.alloc (.cells (ocCs ownC).toArray 45)).heap[w4.heap.size]?=some (.cells (ocCs ownC).toArray 45):=heap_al _ _
 have hb5:=bel1 w4 (.cells (ocCs ownC).toArray 45)
 replace hM:Hid (Mo ownF w.heap.size [w4.heap.size] (w4.alloc (.cells (ocCs ownC).toArray 45)) a newZ):=⟨(hM.out.add (Nat.le_refl _)).below hb5⟩
 replace hB:Hid (Below w.heap.size w (w4.alloc (.cells (ocCs ownC).toArray 45))):=⟨hB.out.trans (hb5.mono hB.out.size)⟩
 have hlt:Hid (w4.heap.size<(w4.alloc (.cells (ocCs ownC).toArray 45)).heap.size):=⟨by rw[World.size_alloc];omega⟩
 go_loopw [35] (fun q wr=>∃ j:Nat,j<=7/\q = .int .i64 (j:Int)/\Hid (Mo ownF w.heap.size [w4.heap.size] wr a (sAt j)/\Below w.heap.size w wr/\wr.heap[w4.heap.size]?=some (.cells (ocCs ownC).toArray 45)/\w4.heap.size<wr.heap.size)) (fun q _=>7-(RowKit.intOf q).toNat)
 case atStart=>exact⟨0,Nat.zero_le _,by go_num,⟨hM.out,hB.out,hC,hlt.out⟩⟩
 case round =>
  clear hM hB hC hlt hb5
  obtain⟨j,hj,rfl,hI⟩:=hrel
  obtain⟨hM,hB,hC,hlt⟩:=hI.out
  clear hI
  by_cases hj7:j<7
  ·obtain⟨c,hc⟩:∃ c,ownC[j]?=some c:=⟨ownC[j]'hj7,List.getElem?_eq_getElem hj7⟩
   have hji:(j:Int)<7:=by omega
   have cc:∀ i,i<5->wr.cell? ⟨w4.heap.size,j*5+i,none⟩=(ocC c)[i]?:=fun i hi=>by rw[cell_at hC,List.getElem?_toArray,ocCs_get ownC j c hc i hi]
   have c0:wr.cell? ⟨w4.heap.size,j*5,none⟩=some (.int .i64 c.k):=cc 0 (by omega)
   have c1:wr.cell? ⟨w4.heap.size,j*5+1,none⟩=some (.string c.nm):=cc 1 (by omega)
   have c2:wr.cell? ⟨w4.heap.size,j*5+2,none⟩=some (.slice none 0 0):=cc 2 (by omega)
   have c3:wr.cell? ⟨w4.heap.size,j*5+3,none⟩=some (.int .i64 c.cnt):=cc 3 (by omega)
   have c4:wr.cell? ⟨w4.heap.size,j*5+4,none⟩=some (.string ⟨#[]⟩):=cc 4 (by omega)
   have hok:=own_nm c (List.mem_of_getElem? hc)
   have hb6:=bel1 wr (caO ⟨c.k,c.nm,.slice none 0 0,c.cnt,⟨#[]⟩⟩)
   have hs6:(wr.alloc (caO ⟨c.k,c.nm,.slice none 0 0,c.cnt,⟨#[]⟩⟩)).heap.size=wr.heap.size+1:=World.size_alloc _ _
   have cS:=Mo.step own_chk hL.out ⟨c.k,c.nm,.slice none 0 0,c.cnt,⟨#[]⟩⟩ (hM.below hb6) (by have:=hB.size;omega) (by simp;omega) hok.1 hok.2 (own_ok j c hc) (sAt_succ hc).symm
   have KK:Hid (∀ w',Below w.heap.size (wr.alloc (caO ⟨c.k,c.nm,.slice none 0 0,c.cnt,⟨#[]⟩⟩)) w'->(∀ k∈[w4.heap.size],w'.heap[k]?=(wr.alloc (caO ⟨c.k,c.nm,.slice none 0 0,c.cnt,⟨#[]⟩⟩)).heap[k]?)->Below w.heap.size w w'/\w'.heap[w4.heap.size]?=some (.cells (ocCs ownC).toArray 45)/\w4.heap.size<w'.heap.size):=⟨fun w' hb' hk=>⟨(hB.trans (hb6.mono hB.size)).trans hb',((hk _ (by simp)).trans (hb6.block _ hlt)).trans hC,by have:=hb'.size;omega⟩⟩
   clear hM hB hC hlt hok hb6 hs6 cc hc
   go_wp2_with (go_at_call 9;refine cS.mono ?_;rintro _ w7 ⟨rfl,hM7,hb7,hk7⟩;have hZ:Hid _:=⟨KK.out w7 hb7 hk7⟩;clear hb7 hk7;replace hM7:=Hid.mk hM7)
   go_roundw
   case rel=>exact⟨j+1,by omega,by go_num,⟨hM7.out,hZ.out⟩⟩
   case measure=>simp[RowKit.intOf];omega
  ·obtain rfl:j=7:=by omega
   replace hM:Hid (Mo ownF w.heap.size [] wr a (sAt 7)):=⟨hM.imp fun U hU=>⟨hU.1,fun k hk=>⟨(hU.2 k hk).1,by simp⟩⟩⟩
   replace hB:=Hid.mk hB
   replace hC:=Hid.mk hC
   replace hlt:=Hid.mk hlt
   clear hj hj7
   go_upto_region 10 with fail
   clear hC hlt
   have F1:True:=trivial
   have F2:True:=trivial
   have F3:True:=trivial
   have hr7:Hid ((stepZ ownF.toks (sAt 7) 3 0 ⟨#[100]⟩).2=sEnd):=⟨rfl⟩
   have hr8:Hid ((stepZ ownF.toks (sAt 7) 3 0 ⟨#[100]⟩).1=0):=⟨own_r7⟩
   have l7:Hid (lfZ (sAt 7)=[0]):=⟨own_l7⟩
   have l8:Hid (lfZ sEnd=[]):=⟨own_l8⟩
   have i7:Hid (insZ (sAt 7)=4):=⟨own_i7⟩
   have i8:Hid (insZ sEnd=0):=⟨own_i8⟩
   have d7:Hid (doneB ownF.toks (sAt 7)=false):=⟨own_d7⟩
   have d8:Hid (doneB ownF.toks sEnd=true):=⟨own_d8⟩
   generalize sAt 7=s7 at hM hr7 hr8 l7 i7 d7
   generalize sEnd=s8 at hr7 l8 i8 d8
   go_wp2_with (first
    | (go_at_call 17;clear F1;refine(hM.out.done d7.out).mono ?_;rintro _ w6 ⟨rfl,hM3,hb3⟩;replace hM:Hid _:=⟨hM3⟩;replace hB:Hid (Below w.heap.size w w6):=⟨hB.out.trans (hb3.mono hB.out.size)⟩;clear hM3 hb3)
    | (go_at_call 19;clear F2;refine(hM.out.left l7.out).mono ?_;rintro _ w7 ⟨pp,cp,rfl,hs7,hM3,hb3⟩;replace hs7:=Hid.mk hs7;replace hM:Hid _:=⟨hM3⟩;replace hB:Hid (Below w.heap.size w w7):=⟨hB.out.trans (hb3.mono hB.out.size)⟩;clear hM3 hb3)
    | (go_at_call 18;refine(sameInts_any [0] [0] pp (some ⟨w7.heap.size,0,none⟩) cp 1 _ (hs7.out.below (bel1 _ _)) (NSl.mk1 _ 0) (by decide)).mono ?_;rintro _ w8 ⟨rfl,hb9⟩;replace hM:Hid _:=⟨(hM.out.below (bel1 _ _)).below hb9⟩;replace hB:Hid (Below w.heap.size w w8):=⟨(hB.out.trans ((bel1 _ _).mono hB.out.size)).trans (hb9.mono (hB.out.trans ((bel1 _ _).mono hB.out.size)).size)⟩;clear hb9 hs7)
    | (go_at_call 20;clear F3;refine(hM.out.inside i7.out).mono ?_;rintro _ w9 ⟨rfl,hM3,hb3⟩;replace hM:Hid _:=⟨hM3⟩;replace hB:Hid (Below w.heap.size w w9):=⟨hB.out.trans (hb3.mono hB.out.size)⟩;clear hM3 hb3)
    | (go_at_call 9;refine(hM.out.step own_chk hL.out ⟨3,⟨#[100]⟩,.slice none 0 0,0,⟨#[]⟩⟩ hB.out.size (by simp) h0.out hn1.out hr8.out hr7.out).mono ?_;rintro _ wa ⟨rfl,hM3,hb3,-⟩;replace hM:Hid _:=⟨hM3⟩;replace hB:Hid (Below w.heap.size w wa):=⟨hB.out.trans hb3⟩;clear hM3 hb3)
    | (go_at_call 17;refine(hM.out.done d8.out).mono ?_;rintro _ wb ⟨rfl,hM3,hb3⟩;replace hM:Hid _:=⟨hM3⟩;replace hB:Hid (Below w.heap.size w wb):=⟨hB.out.trans (hb3.mono hB.out.size)⟩;clear hM3 hb3)
    | (go_at_call 20;refine(hM.out.inside i8.out).mono ?_;rintro _ wc ⟨rfl,hM3,hb3⟩;replace hM:Hid _:=⟨hM3⟩;replace hB:Hid (Below w.heap.size w wc):=⟨hB.out.trans (hb3.mono hB.out.size)⟩;clear hM3 hb3)
    | (go_at_call 19;refine(hM.out.left l8.out).mono ?_;rintro _ wd ⟨pp,cp,rfl,hs7,hM3,hb3⟩;replace hB:Hid (Below w.heap.size w wd):=⟨hB.out.trans (hb3.mono hB.out.size)⟩;clear hM3 hb3 hs7))
   go_ret
   exact⟨rfl,hB.out⟩
def K2 (f:Fm) (b lo hi:Nat) (w:World) (a:Nat) (s:Ms) (a':Nat) (s':Ms):Prop:=∃ U V,Mc f w a s U/\Mc f w a' s' V/\(∀ k,U k->¬ V k)/\∀ k,U k\/V k->b<=k/\¬ (lo<=k/\k<hi)
structure CRow (w:World) (pq:Option Addr) (H:Nat) (cs:List Cl):Prop where
 c:∀ (i:Nat) (c:Cl),cs[i]?=some c->∃ g o,pq=some ⟨g,o,none⟩/\g<H/\w.cell? ⟨g,o+i*5,none⟩=some (.int .i64 c.k)/\w.cell? ⟨g,o+i*5+1,none⟩=some (.string c.nm)/\w.cell? ⟨g,o+i*5+2,none⟩=some c.ws/\w.cell? ⟨g,o+i*5+3,none⟩=some (.int .i64 c.cnt)/\w.cell? ⟨g,o+i*5+4,none⟩=some (.string c.tx)
 ok:∀ c∈cs,i64ok c.cnt/\c.nm.size<=maxLen/\∃ p n m,c.ws = .slice p n m
theorem CRow.below {pq:Option Addr} {H:Nat} {cs:List Cl} (h:CRow w pq H cs) (hb:Below H w w'):CRow w' pq H cs :=
 ⟨fun i c hi=>by
  obtain⟨g,o,e,hg,h0,h1,h2,h3,h4⟩:=h.c i c hi
  exact⟨g,o,e,hg,(hb.cell (p:=⟨g,_,none⟩) hg).trans h0,(hb.cell (p:=⟨g,_,none⟩) hg).trans h1,(hb.cell (p:=⟨g,_,none⟩) hg).trans h2,(hb.cell (p:=⟨g,_,none⟩) hg).trans h3,(hb.cell (p:=⟨g,_,none⟩) hg).trans h4⟩,h.ok⟩
end Go.Proofs.YtbhmciieiilcfaaGreatDoor

import Derived.Test.YtbhmciieiilcfaaGreatDoorK31
namespace Go.Proofs.YtbhmciieiilcfaaGreatDoor
set_option maxRecDepth 1000000
set_option maxHeartbeats 16000000
open Go.ChangeShapes Go.WideShapes Go.ChangeAt Go.RowKit Go.Shelf Go.Maps
variable {a c cnt k:Int} {b cap cp g go n:Nat} {f:Fm} {l:List Tk} {m m':DM} {nm:ByteArray} {pp:Option Addr} {s:Ms} {w:World} {zs:List DL}
theorem step_0 (_hz:chkZ f=none) (h:DS w b go cap f pp cp zs g c a) (_tl:TkL w pp w.heap.size f.toks) (_rm:RM f s ⟨zs.reverse,g,c,a⟩) (cl:Cl) (hk:cl.k<0\/3<cl.k) :
  Calls Tryz.prog 10 #[.pointer (some ⟨b,0,none⟩),caV cl] w (StD b go f pp cp (stepD f.toks ⟨zs.reverse,g,c,a⟩ cl.k cl.cnt cl.nm) w):=by
 have FIN:Hid (∀ W,Below w.heap.size w W->StD b go f pp cp (stepD f.toks ⟨zs.reverse,g,c,a⟩ cl.k cl.cnt cl.nm) w (.returned (.int .i64 140)) W):=⟨fun W hW=>st_no (by unfold stepD;rw[if_pos hk]) h hW⟩
 have d0:Hid (decide (cl.k<0)=true\/(decide (cl.k<0)=false/\decide (3<cl.k)=true)):=⟨by
  by_cases h0:cl.k<0
  ·exact .inl (decide_eq_true h0)
  ·exact .inr ⟨decide_eq_false h0,decide_eq_true (by omega)⟩⟩
 clear h hk
 rcases d0.out with e|⟨e,e2⟩
 all_goals
  clear d0
  go_enter Tryz.func10,Tryz.ntmps10
  go_wp2_with fail
  go_ret
  exact FIN.out _ (bel1 _ _)
theorem step_1 (hz:chkZ f=none) (h:DS w b go cap f pp cp zs g c a) (tl:TkL w pp w.heap.size f.toks) (rm:RM f s ⟨zs.reverse,g,c,a⟩) (cl:Cl) (hk:0<=cl.k/\cl.k<=3) (hm:mayF f.toks cl.k cl.cnt cl.nm zs.length ⟨zs.reverse,g,c,a⟩=none) :
  Calls Tryz.prog 10 #[.pointer (some ⟨b,0,none⟩),caV cl] w (StD b go f pp cp (stepD f.toks ⟨zs.reverse,g,c,a⟩ cl.k cl.cnt cl.nm) w):=by
 have hW:=bel1 w (caO cl)
 have d0:decide (cl.k<0)=false:=decide_eq_false (by omega)
 have d1:decide (3<cl.k)=false:=decide_eq_false (by omega)
 have MY:=dMay_any hz (h.below hW) ((tl.below hW).mono hW.size) rm cl (by omega)
 have L1:=ca_ld (heap_al w (caO cl))
 have hlen:zs.reverse.length=zs.length:=List.length_reverse
 have hsz:(w.alloc (caO cl)).heap.size=w.heap.size+1:=World.size_alloc _ _
 have FIN:Hid (∀ W,Below w.heap.size w W->StD b go f pp cp (stepD f.toks ⟨zs.reverse,g,c,a⟩ cl.k cl.cnt cl.nm) w (.returned (.int .i64 140)) W):=⟨fun W hW=>st_no (by unfold stepD;rw[if_neg (by omega)];simp only[hlen,hm]) h hW⟩
 rw[hm] at MY
 have MY2:Calls Tryz.prog 26 #[.pointer (some ⟨b,0,none⟩),caV cl] (w.alloc (caO cl)) fun e w1=>∃ p n q g c a,e = .returned (.tuple #[dmV f pp cp (.slice p n q) g c a,.bool false])/\Hid (Below w.heap.size w w1):=MY.mono fun e w1 hP=>by
  obtain⟨h1,p,n,q,g,c,a,h2⟩:=hP
  exact⟨p,n,q,g,c,a,h2,⟨hW.trans (h1.mono hW.size)⟩⟩
 clear h hk hm hz tl rm hW MY hlen hsz
 go_enter Tryz.func10,Tryz.ntmps10
 go_wp2_with (first
  | (go_at_call 26;refine MY2.mono ?_;rintro _ w1 ⟨p2,n2,q2,g2,c2,a2,rfl,hb1⟩;have S1:=fun z hz=>dm_new w1 z hz f pp cp p2 n2 q2 g2 c2 a2)
  | (guard_target =~ wpList _ _ _ (Oper.mk _ (Op.load 45 _) _ _ _ _::_) _ _;go_must (refine wpList_ld 45 _ rfl rfl _ _ rfl L1 ?_);simp only[pts])
  | (guard_target =~ wpList _ _ _ (Oper.mk _ (Op.store 34 _ _) _ _ _ _::_) _ _;go_must (refine wpList_st 34 _ _ rfl rfl _ _ rfl rfl (S1 _ rfl) ?_);simp only[pts]))
 go_ret
 exact FIN.out _ (hb1.out.trans ((bel1 _ _).mono hb1.out.size))
theorem step_2 (hz:chkZ f=none) (h:DS w b go cap f pp cp zs g c a) (tl:TkL w pp w.heap.size f.toks) (rm:RM f s ⟨zs.reverse,g,c,a⟩) (cl:Cl) (hk:0<=cl.k/\cl.k<=3) (hk1:cl.k≠1) (m:DM) (hm:mayF f.toks cl.k cl.cnt cl.nm zs.length ⟨zs.reverse,g,c,a⟩=some m) (hml:0<m.op.length/\m.op.length<=1000000) :
  Calls Tryz.prog 10 #[.pointer (some ⟨b,0,none⟩),caV cl] w (StD b go f pp cp (stepD f.toks ⟨zs.reverse,g,c,a⟩ cl.k cl.cnt cl.nm) w):=by
 have hW:=bel1 w (caO cl)
 have d0:decide (cl.k<0)=false:=decide_eq_false (by omega)
 have d1:decide (3<cl.k)=false:=decide_eq_false (by omega)
 have MY:=dMay_any hz (h.below hW) ((tl.below hW).mono hW.size) rm cl (by omega)
 have L1:=ca_ld (heap_al w (caO cl))
 have hlen:zs.reverse.length=zs.length:=List.length_reverse
 have hsz:(w.alloc (caO cl)).heap.size=w.heap.size+1:=World.size_alloc _ _
 rw[hm] at MY
 have hlm:0<m.op.length/\m.op.length<=1000000:=hml
 have MY2:Calls Tryz.prog 26 #[.pointer (some ⟨b,0,none⟩),caV cl] (w.alloc (caO cl)) fun e w1=>∃ go1 cap1,e = .returned (.tuple #[dmV f pp cp (.slice (some ⟨go1,0,none⟩) m.op.length cap1) (m.group:Int) m.count m.all,.bool true])/\Hid (Below (w.alloc (caO cl)).heap.size (w.alloc (caO cl)) w1/\DOp w1 go1 cap1 m.op.reverse/\w.heap.size+1<=go1):=MY.mono fun e w1 hP=>by
  obtain⟨h1,go1,cap1,h2,h3,h4⟩:=hP
  exact⟨go1,cap1,h2,⟨h1,h3,by omega⟩⟩
 have d2:(cl.k==1)=false:=beq_eq_false_iff_ne.2 hk1
 have FIN:Hid (∀ w1 go1 cap1 W,Below (w.alloc (caO cl)).heap.size (w.alloc (caO cl)) w1->DOp w1 go1 cap1 m.op.reverse->w.heap.size+1<=go1->Below w1.heap.size w1 W->(∃ old:Array Value,W.heap[b]?=some (.cells old 34)/\old.size=17)/\StD b go f pp cp (stepD f.toks ⟨zs.reverse,g,c,a⟩ cl.k cl.cnt cl.nm) w (.returned (.int .i64 0)) (W.setRow b (dmA f pp cp (.slice (some ⟨go1,0,none⟩) m.op.length cap1) (m.group:Int) m.count m.all))):=⟨fun w1 go1 cap1 W h1 h2 h3 h4=>by
  have hbw:=(hW.trans (h1.mono hW.size)).trans (h4.mono (Nat.le_trans hW.size h1.size))
  have hold:=(h.below hbw).c
  refine⟨⟨_,hold,rfl⟩,st_yes ?_ hbw h.lt.1 hold (h2.same (h4.block _ h2.lt)) (by omega) hlm.1 hlm.2⟩
  unfold stepD
  rw[if_neg (by omega)]
  simp only[hlen,hm]
  rw[if_neg hk1]⟩
 clear h hk hm hz tl rm hW MY hlen hsz hk1 hml hlm
 go_enter Tryz.func10,Tryz.ntmps10
 go_wp2_with (first
  | (go_at_call 26;refine MY2.mono ?_;rintro _ w1 ⟨go1,cap1,rfl,hQ⟩;obtain⟨q1,q2,q3⟩:=hQ.out;have S1:=fun z hz=>dm_new w1 z hz f pp cp (some ⟨go1,0,none⟩) m.op.length cap1 (m.group:Int) m.count m.all;have L2:=dm_ld (heap_al w1 (dmO f pp cp (.slice (some ⟨go1,0,none⟩) m.op.length cap1) (m.group:Int) m.count m.all));obtain⟨⟨old,z1,z2⟩,z3⟩:=FIN.out w1 go1 cap1 _ q1 q2 q3 (bel1 w1 (dmO f pp cp (.slice (some ⟨go1,0,none⟩) m.op.length cap1) (m.group:Int) m.count m.all));have S2:=dm_st z1 z2 f pp cp (some ⟨go1,0,none⟩) m.op.length cap1 (m.group:Int) m.count m.all;have x0:(w1.alloc (dmO f pp cp (.slice (some ⟨go1,0,none⟩) m.op.length cap1) (m.group:Int) m.count m.all)).cell? ⟨w.heap.size,0,none⟩=some (.int .i64 cl.k):=(((q1.trans ((bel1 w1 (dmO f pp cp (.slice (some ⟨go1,0,none⟩) m.op.length cap1) (m.group:Int) m.count m.all)).mono q1.size)).cell (p:=⟨w.heap.size,0,none⟩) (by simp)).trans (cell_at (heap_al w (caO cl)) 0));replace z3:=Hid.mk z3;clear q1 q2 q3 hQ z1)
  | (guard_target =~ wpList _ _ _ (Oper.mk _ (Op.load 45 _) _ _ _ _::_) _ _;go_must (refine wpList_ld 45 _ rfl rfl _ _ rfl L1 ?_);simp only[pts])
  | (guard_target =~ wpList _ _ _ (Oper.mk _ (Op.load 34 _) _ _ _ _::_) _ _;go_must (refine wpList_ld 34 _ rfl rfl _ _ rfl L2 ?_);simp only[pts])
  | (guard_target =~ wpList _ _ _ (Oper.mk _ (Op.store 34 _ _) _ _ _ _::_) _ _;go_must (first|refine wpList_st 34 _ _ rfl rfl _ _ rfl rfl (S1 _ rfl) ?_|refine wpList_st 34 _ _ rfl rfl _ _ rfl rfl S2 ?_);simp only[pts]))
 go_ret
 exact z3.out
theorem ent_Member:∀ ag w,(callFunc 27 ag).run Tryz.prog w = .ok (.enter 27 ag) w:=enters_of Tryz.func27 (by kernel_rfl) rfl
theorem set_blkA {W:World} {v:Value} {g:Int} (h:W.heap[b]?=some (dmO f pp cp v g c a)) (u:Int):(W.setCell ⟨b,16,none⟩ (.int .i64 u)).heap[b]?=some (dmO f pp cp v g c u):=by
 show (W.heap.modify b _)[b]?=_
 rw[Array.getElem?_modify,if_pos rfl,h]
 rfl
theorem tk_st (hb:w.heap[b]?=some zTkD) (t:Tk) (pc:Option Addr) (cc:Nat):(Instr.storeAt 83 (.pointer (some ⟨b,0,none⟩)) (tkV t pc cc)).run Tryz.prog w = .ok () (w.setRow b (tkC t pc cc).toArray):=by
 simp only[Instr.storeAt,Instr.sureAddr,Sem.run_bind,Sem.run_pure,Result.andThen]
 exact run_storeVar_row _ _ _ _ _ _ hb infoTk rfl (all_oneCell_toArray (tkC_one t pc cc))
theorem step_3 (hz:chkZ f=none) (h:DS w b go cap f pp cp zs g c a) (tl:TkL w pp w.heap.size f.toks) (rm:RM f s ⟨zs.reverse,g,c,a⟩) (cl:Cl) (hk1:cl.k=1) (m:DM) (hm:mayF f.toks cl.k cl.cnt cl.nm zs.length ⟨zs.reverse,g,c,a⟩=some m) (hml:0<m.op.length/\m.op.length<=1000000) (hct:i64ok cl.cnt) (ha:0<=a/\a<=65536) :
  Calls Tryz.prog 10 #[.pointer (some ⟨b,0,none⟩),caV cl] w (StD b go f pp cp (stepD f.toks ⟨zs.reverse,g,c,a⟩ cl.k cl.cnt cl.nm) w):=by
 have hk:0<=cl.k/\cl.k<=3:=by omega
 have hW:=bel1 w (caO cl)
 have d0:decide (cl.k<0)=false:=decide_eq_false (by omega)
 have d1:decide (3<cl.k)=false:=decide_eq_false (by omega)
 have MY:=dMay_any hz (h.below hW) ((tl.below hW).mono hW.size) rm cl (by omega)
 have L1:=ca_ld (heap_al w (caO cl))
 have hlen:zs.reverse.length=zs.length:=List.length_reverse
 have hsz:(w.alloc (caO cl)).heap.size=w.heap.size+1:=World.size_alloc _ _
 rw[hm] at MY
 have hlm:0<m.op.length/\m.op.length<=1000000:=hml
 have MY2:Calls Tryz.prog 26 #[.pointer (some ⟨b,0,none⟩),caV cl] (w.alloc (caO cl)) fun e w1=>∃ go1 cap1,e = .returned (.tuple #[dmV f pp cp (.slice (some ⟨go1,0,none⟩) m.op.length cap1) (m.group:Int) m.count m.all,.bool true])/\Hid (Below (w.alloc (caO cl)).heap.size (w.alloc (caO cl)) w1/\DOp w1 go1 cap1 m.op.reverse/\w.heap.size+1<=go1):=MY.mono fun e w1 hP=>by
  obtain⟨h1,go1,cap1,h2,h3,h4⟩:=hP
  exact⟨go1,cap1,h2,⟨h1,h3,by omega⟩⟩
 have d2:(cl.k==1)=true:=by rw[hk1];rfl
 obtain⟨hall0,u,hu0,hg1,hg2⟩:=mem_group hz rm (cnt:=cl.cnt) (nm:=cl.nm) (m':=m) (by rw[<- hk1];show mayF f.toks cl.k cl.cnt cl.nm zs.reverse.length _=_;rw[hlen];exact hm)
 have hqe:memF f.toks 1 cl.nm zs.reverse.length ⟨zs.reverse,g,c,a⟩=memF f.toks cl.k cl.nm zs.length ⟨zs.reverse,g,c,a⟩:=by rw[hk1,hlen]
 have hall:m.all=a:=hall0
 have hu:f.toks[memF f.toks 1 cl.nm zs.reverse.length ⟨zs.reverse,g,c,a⟩]?=some u:=hu0
 rw[hqe] at hu
 clear hu0 hall0
 have hsd:stepD f.toks ⟨zs.reverse,g,c,a⟩ cl.k cl.cnt cl.nm=if cl.cnt<0\/mx u.b.p<cl.cnt then (141,⟨zs.reverse,g,c,a⟩) else if 65536-a<cl.cnt then (163,⟨zs.reverse,g,c,a⟩) else (0,⟨m.op,m.group,m.count,m.all+cl.cnt⟩):=by
  unfold stepD
  rw[if_neg (by omega)]
  simp only[hlen,hm]
  rw[if_pos hk1,bpAt_some hu,hg1]
 have MB:Hid (∀ W,Below w.heap.size w W->Calls Tryz.prog 27 #[.pointer (some ⟨b,0,none⟩),caV cl] W fun e w2=>∃ v,e = .returned v/\Hid (v = .int .i64 ((memF f.toks cl.k cl.nm zs.length ⟨zs.reverse,g,c,a⟩:Nat):Int)/\Below W.heap.size W w2)):=⟨fun W hW=>(dMember_any hz (h.below hW) ((tl.below hW).mono hW.size) rm cl hk1).mono fun e w2 hP=>⟨_,hP.1,⟨rfl,hP.2⟩⟩⟩
 obtain⟨gt,ot,pu,cu,hpp,hgt,hT0,-⟩:=tl.at hu
 subst hpp
 generalize memF f.toks cl.k cl.nm zs.length ⟨zs.reverse,g,c,a⟩=q at *
 have hql:q<f.toks.length:=(List.getElem?_eq_some_iff.1 hu).1
 have m5:(q:Int)<(f.toks.length:Int):=by omega
 have LT:Hid (∀ W,Below w.heap.size w W->(Instr.loadAt 83 (.pointer (some ⟨gt,ot+q*21,none⟩))).run Tryz.prog W = .ok (tkV u pu cu) W):=⟨fun W hW=>(hT0.below hgt hW).load⟩
 have hcs:Hid ((decide (cl.cnt<0)=true/\stepD f.toks ⟨zs.reverse,g,c,a⟩ cl.k cl.cnt cl.nm=(141,⟨zs.reverse,g,c,a⟩))\/(decide (cl.cnt<0)=false/\decide (mx u.b.p<cl.cnt)=true/\stepD f.toks ⟨zs.reverse,g,c,a⟩ cl.k cl.cnt cl.nm=(141,⟨zs.reverse,g,c,a⟩))\/(decide (cl.cnt<0)=false/\decide (mx u.b.p<cl.cnt)=false/\decide (65536-a<cl.cnt)=true/\stepD f.toks ⟨zs.reverse,g,c,a⟩ cl.k cl.cnt cl.nm=(163,⟨zs.reverse,g,c,a⟩))\/(decide (cl.cnt<0)=false/\decide (mx u.b.p<cl.cnt)=false/\decide (65536-a<cl.cnt)=false/\stepD f.toks ⟨zs.reverse,g,c,a⟩ cl.k cl.cnt cl.nm=(0,⟨m.op,m.group,m.count,m.all+cl.cnt⟩))):=⟨by
  by_cases h1:cl.cnt<0
  ·exact .inl ⟨decide_eq_true h1,by rw[hsd,if_pos (.inl h1)]⟩
  ·by_cases h2:mx u.b.p<cl.cnt
   ·exact .inr (.inl ⟨decide_eq_false h1,decide_eq_true h2,by rw[hsd,if_pos (.inr h2)]⟩)
   ·by_cases h3:65536-a<cl.cnt
    ·exact .inr (.inr (.inl ⟨decide_eq_false h1,decide_eq_false h2,decide_eq_true h3,by rw[hsd,if_neg (by omega),if_pos h3]⟩))
    ·exact .inr (.inr (.inr ⟨decide_eq_false h1,decide_eq_false h2,decide_eq_false h3,by rw[hsd,if_neg (by omega),if_neg h3]⟩))⟩
 have FIN:Hid (∀ go1 cap1 V2,w.heap.size+1<=go1->Below w.heap.size w V2->DOp V2 go1 cap1 m.op.reverse->(∀ n er,stepD f.toks ⟨zs.reverse,g,c,a⟩ cl.k cl.cnt cl.nm=(er,⟨zs.reverse,g,c,a⟩)->StD b go f (some ⟨gt,ot,none⟩) cp (stepD f.toks ⟨zs.reverse,g,c,a⟩ cl.k cl.cnt cl.nm) w (.returned (.int .i64 er)) (V2.drewN n))/\∀ n N,w.heap.size+1<=N->stepD f.toks ⟨zs.reverse,g,c,a⟩ cl.k cl.cnt cl.nm=(0,⟨m.op,m.group,m.count,m.all+cl.cnt⟩)->N≠go1->StD b go f (some ⟨gt,ot,none⟩) cp (stepD f.toks ⟨zs.reverse,g,c,a⟩ cl.k cl.cnt cl.nm) w (.returned (.int .i64 0)) (((V2.drewN n).setCell ⟨N,16,none⟩ (.int .i64 (m.all+cl.cnt))).setRow b (dmA f (some ⟨gt,ot,none⟩) cp (.slice (some ⟨go1,0,none⟩) m.op.length cap1) (m.group:Int) m.count (m.all+cl.cnt)))):=⟨fun go1 cap1 V2 h1 h2 h3=>⟨fun n er e=>st_no e h (bdN h2 n),fun n N hN e hne=>by
  have hbl:=h.lt.1
  have hbw:Below w.heap.size w ((V2.drewN n).setCell ⟨N,16,none⟩ (.int .i64 (m.all+cl.cnt))):=(bdN h2 n).setCell (p:=⟨N,16,none⟩) (by show w.heap.size<=N;omega) _
  exact st_yes (m:=m) e hbw hbl (h.below hbw).c (h3.same (W':=(V2.drewN n).setCell ⟨N,16,none⟩ (.int .i64 (m.all+cl.cnt))) (set_oth (w:=V2.drewN n) hne)) (by omega) hlm.1 hlm.2⟩⟩
 have hDS:Hid (∀ W,Below w.heap.size w W->W.heap[b]?=some (dmO f (some ⟨gt,ot,none⟩) cp (.slice (some ⟨go,0,none⟩) zs.length cap) (g:Int) c a)):=⟨fun W hW=>(h.below hW).c⟩
 have hbw:=h.lt.1
 have hwa:IntKind.i64.wrap (65536-a)=65536-a:=by rw[IntKind.wrap_i64];omega
 have hwc:Hid (i64ok cl.cnt):=⟨hct⟩
 have hab:Hid (0<=m.all/\m.all<=65536):=⟨by omega⟩
 have hgg:=hg2
 clear h hk hm hz tl rm hW MY hlen hsz hk1 hml hlm hg1 hu hsd hT0 hql hqe hct hall
 go_enter Tryz.func10,Tryz.ntmps10
 go_wp2_with (first
  | (go_at_call 26;refine MY2.mono ?_;rintro _ w1 ⟨go1,cap1,rfl,hQ⟩;have S1:=fun z hz=>dm_new w1 z hz f (some ⟨gt,ot,none⟩) cp (some ⟨go1,0,none⟩) m.op.length cap1 (m.group:Int) m.count m.all;have x0:(w1.alloc (dmO f (some ⟨gt,ot,none⟩) cp (.slice (some ⟨go1,0,none⟩) m.op.length cap1) (m.group:Int) m.count m.all)).cell? ⟨w.heap.size,0,none⟩=some (.int .i64 cl.k):=(((hQ.out.1.trans ((bel1 w1 (dmO f (some ⟨gt,ot,none⟩) cp (.slice (some ⟨go1,0,none⟩) m.op.length cap1) (m.group:Int) m.count m.all)).mono hQ.out.1.size)).cell (p:=⟨w.heap.size,0,none⟩) (by simp)).trans (cell_at (heap_al w (caO cl)) 0)))
  | (guard_target =~ wpList _ _ _ (Oper.mk _ (Op.load 45 _) _ _ _ _::_) _ _;go_must (refine wpList_ld 45 _ rfl rfl _ _ rfl L1 ?_);simp only[pts])
  | (guard_target =~ wpList _ _ _ (Oper.mk _ (Op.store 34 _ _) _ _ _ _::_) _ _;go_must (refine wpList_st 34 _ _ rfl rfl _ _ rfl rfl (S1 _ rfl) ?_);simp only[pts]))
 obtain⟨q1,q2,hgo⟩:=hQ.out
 have hV1:=q1.trans ((bel1 w1 (dmO f (some ⟨gt,ot,none⟩) cp (.slice (some ⟨go1,0,none⟩) m.op.length cap1) (m.group:Int) m.count m.all)).mono q1.size)
 have HB1:Hid (Below w.heap.size w (w1.alloc (dmO f (some ⟨gt,ot,none⟩) cp (.slice (some ⟨go1,0,none⟩) m.op.length cap1) (m.group:Int) m.count m.all))):=⟨(bel1 w (caO cl)).trans (hV1.mono (by simp))⟩
 have hX1:Hid ((w1.alloc (dmO f (some ⟨gt,ot,none⟩) cp (.slice (some ⟨go1,0,none⟩) m.op.length cap1) (m.group:Int) m.count m.all)).heap[w.heap.size]?=some (caO cl)):=⟨(hV1.block _ (by simp)).trans (heap_al _ _)⟩
 have hN1:Hid ((w1.alloc (dmO f (some ⟨gt,ot,none⟩) cp (.slice (some ⟨go1,0,none⟩) m.op.length cap1) (m.group:Int) m.count m.all)).heap[w1.heap.size]?=some (dmO f (some ⟨gt,ot,none⟩) cp (.slice (some ⟨go1,0,none⟩) m.op.length cap1) (m.group:Int) m.count m.all)):=⟨heap_al _ _⟩
 have hOp:Hid (∀ V,Below (w1.alloc (dmO f (some ⟨gt,ot,none⟩) cp (.slice (some ⟨go1,0,none⟩) m.op.length cap1) (m.group:Int) m.count m.all)).heap.size (w1.alloc (dmO f (some ⟨gt,ot,none⟩) cp (.slice (some ⟨go1,0,none⟩) m.op.length cap1) (m.group:Int) m.count m.all)) V->DOp V go1 cap1 m.op.reverse):=⟨fun V hV=>(q2.same ((bel1 _ _).block _ q2.lt)).same (hV.block _ (q2.same ((bel1 w1 (dmO f (some ⟨gt,ot,none⟩) cp (.slice (some ⟨go1,0,none⟩) m.op.length cap1) (m.group:Int) m.count m.all)).block _ q2.lt)).lt)⟩
 have hNg:w1.heap.size≠go1:=by have:=q2.lt;omega
 have hNw:w.heap.size+1<=w1.heap.size:=by have:=q1.size;simp at this;omega
 have hNl:w1.heap.size<(w1.alloc (dmO f (some ⟨gt,ot,none⟩) cp (.slice (some ⟨go1,0,none⟩) m.op.length cap1) (m.group:Int) m.count m.all)).heap.size:=by simp
 clear q1 q2 hQ hV1 S1 x0 MY2 L1
 generalize hVV:w1.alloc (dmO f (some ⟨gt,ot,none⟩) cp (.slice (some ⟨go1,0,none⟩) m.op.length cap1) (m.group:Int) m.count m.all)=V1 at *
 generalize w1.heap.size=N at *
 clear hVV
 have hXl:w.heap.size<V1.heap.size:=lt_of_blk hX1.out
 have x3:=cell_at hX1.out 3
 have hbb:Hid (V1.heap[b]?=_):=⟨hDS.out V1 HB1.out⟩
 have hbl:=lt_of_blk hbb.out
 have b16:=cell_at hbb.out 16
 have b12:=cell_at hbb.out 12
 have hBd:Below V1.heap.size V1 V1.drew:=(Below.refl _ _).drew
 obtain⟨p,pI,pB,pN,r12,LT2,LC⟩:∃ p:World->Prop,(∀ W,Below V1.heap.size V1 W->p W)/\(∀ W,p W->Below V1.heap.size V1 W)/\Nonempty (CW p)/\(∀ θ:CW p,θ.w.cell? ⟨b,12,none⟩=some (.slice (some ⟨gt,ot,none⟩) f.toks.length cp))/\(∀ W,(∃ θ:CW p,W=θ.w)->(Instr.loadAt 83 (.pointer (some ⟨gt,ot+q*21,none⟩))).run Tryz.prog W = .ok (tkV u pu cu) W)/\(∀ W,(∃ θ:CW p,W=θ.w)->(Instr.loadAt 45 (.pointer (some ⟨w.heap.size,0,none⟩))).run Tryz.prog W = .ok (caV cl) W) :=
  ⟨Below V1.heap.size V1,fun _ h=>h,fun _ h=>h,⟨⟨V1,Below.refl _ _⟩⟩,fun θ=>(θ.h.cell (p:=⟨b,12,none⟩) hbl).trans b12,by
   rintro _ ⟨θ,rfl⟩
   exact LT.out _ (HB1.out.trans (θ.h.mono HB1.out.size)),by
   rintro _ ⟨θ,rfl⟩
   exact ca_ld ((θ.h.block _ hXl).trans hX1.out)⟩
 refine wp_region_lv 11 (fun V=>∃ θ:CW p,V=θ.w) [0,1,2,3,4,5,6] 7 [8,9,10,11] 10 [7,8,9,11] (by kernel_rfl) (by kernel_rfl) (fun _ _ d _ _ h=>by cases d<;>exact h) ⟨⟨_,pI _ hBd⟩,rfl⟩ ?_
 repeat (first|(refine lv_ld LC rfl (by rfl) ?_;simp only[pts])|(refine lv_one ?_;(first|go_big_quiet_skip|(go_big_quiet_want;go_big_quiet_op;go_big_quiet_on));refine wpQuiet_nil ?_))
 refine lv_both ?_ ?_
 ·refine lw_call2 ent_Member (MB.out _ (HB1.out.trans (hBd.mono HB1.out.size))) rfl rfl (by rfl) (fun v w2 hR=>?_)
  obtain⟨rfl,hb2⟩:=hR.out
  have hp2:Below V1.heap.size V1 w2:=hBd.trans (hb2.mono hBd.size)
  refine⟨⟨⟨_,pI _ hp2⟩,rfl⟩,?_⟩
  simp only[pts]
  repeat (first|(refine lw_ld LT2 rfl (by rfl) ?_;simp only[pts])|(refine lw_one rfl ?_;(first|go_big_quiet_skip|(go_big_quiet_want;go_big_quiet_op;go_big_quiet_on));refine wpQuiet_nil ?_))
  refine lw_al (al_tk w2) ⟨⟨_,pI _ (hp2.trans ((bel1 w2 zTkD).mono hp2.size))⟩,rfl⟩ (by rfl) ?_
  simp only[pts]
  refine lw_st (st_new w2 zTa rfl u pu cu) rfl rfl (by rfl) ?_
  simp only[pts]
  have hT2:(w2.alloc (tkO u pu cu)).heap[w2.heap.size]?=some (tkO u pu cu):=heap_al _ _
  have hB2:Below V1.heap.size V1 (w2.alloc (tkO u pu cu)):=hp2.trans ((bel1 w2 (tkO u pu cu)).mono hp2.size)
  generalize w2.alloc (tkO u pu cu)=V2 at *
  generalize w2.heap.size=T at *
  clear hR hb2 hp2 pI pB pN r12 LT2 LC MB LT hBd hDS
  have y3:V2.cell? ⟨w.heap.size,3,none⟩=some (.int .i64 cl.cnt):=(hB2.cell (p:=⟨w.heap.size,3,none⟩) hXl).trans x3
  have y18:V2.cell? ⟨T,18,none⟩=some (.int .i64 u.b.p):=(tk_of hT2).c18
  have yb:V2.cell? ⟨b,16,none⟩=some (.int .i64 a):=(hB2.cell (p:=⟨b,16,none⟩) hbl).trans b16
  have hNN:V2.heap[N]?=some (dmO f (some ⟨gt,ot,none⟩) cp (.slice (some ⟨go1,0,none⟩) m.op.length cap1) (m.group:Int) m.count m.all):=(hB2.block _ hNl).trans hN1.out
  have yN:V2.cell? ⟨N,16,none⟩=some (.int .i64 m.all):=cell_at hNN 16
  have yf:V2.frozen? ⟨N,16,none⟩=false:=froz_of hNN
  have LN:∀ n,(Instr.loadAt 34 (.pointer (some ⟨N,0,none⟩))).run Tryz.prog ((V2.drewN n).setCell ⟨N,16,none⟩ (.int .i64 (m.all+cl.cnt))) = .ok (dmV f (some ⟨gt,ot,none⟩) cp (.slice (some ⟨go1,0,none⟩) m.op.length cap1) (m.group:Int) m.count (m.all+cl.cnt)) ((V2.drewN n).setCell ⟨N,16,none⟩ (.int .i64 (m.all+cl.cnt))):=fun n=>dm_ld (set_blkA (W:=V2.drewN n) hNN _)
  obtain⟨hno,hyes⟩:=FIN.out go1 cap1 V2 hgo (HB1.out.trans (hB2.mono HB1.out.size)) (hOp.out V2 hB2)
  have hNb:N≠b:=by omega
  have hbV:∀ n,((V2.drewN n).setCell ⟨N,16,none⟩ (.int .i64 (m.all+cl.cnt))).heap[b]?=some (dmO f (some ⟨gt,ot,none⟩) cp (.slice (some ⟨go,0,none⟩) zs.length cap) (g:Int) c a):=fun n=>(set_oth (w:=V2.drewN n) hNb).trans ((hB2.block b hbl).trans hbb.out)
  have SN:∀ n,(Instr.storeAt 34 (.pointer (some ⟨b,0,none⟩)) (dmV f (some ⟨gt,ot,none⟩) cp (.slice (some ⟨go1,0,none⟩) m.op.length cap1) (m.group:Int) m.count (m.all+cl.cnt))).run Tryz.prog ((V2.drewN n).setCell ⟨N,16,none⟩ (.int .i64 (m.all+cl.cnt))) = .ok () (((V2.drewN n).setCell ⟨N,16,none⟩ (.int .i64 (m.all+cl.cnt))).setRow b (dmA f (some ⟨gt,ot,none⟩) cp (.slice (some ⟨go1,0,none⟩) m.op.length cap1) (m.group:Int) m.count (m.all+cl.cnt))):=fun n=>dm_st (hbV n) rfl _ _ _ _ _ _ _ _ _
  have hno':Hid _:=⟨hno⟩
  have hyes':Hid _:=⟨hyes⟩
  have MX:=fun p W=>refMax_any p W
  clear hT2 hB2 hNN hno hyes hbV
  rcases hcs.out with ⟨c1,R1⟩|⟨c1,c2,R1⟩|⟨c1,c2,c3,R1⟩|⟨c1,c2,c3,R1⟩
  ·go_wp2_with fail
   go_quiet (first|(go_at_call 28;exact Calls.quiet_of_same (MX _ _)))
   go_wp2_with fail
   go_ret
   exact hno'.out _ 141 R1
  ·have wu:IntKind.u64.wrap cl.cnt=cl.cnt:=by
    have h1:=of_decide_eq_false c1;have h2:=hwc.out;unfold i64ok at h2;rw[IntKind.wrap_u64];omega
   go_wp2_with fail
   go_quiet (first|(go_at_call 28;exact Calls.quiet_of_same (MX _ _)))
   go_wp2_with fail
   go_ret
   exact hno'.out _ 141 R1
  ·have wu:IntKind.u64.wrap cl.cnt=cl.cnt:=by
    have h1:=of_decide_eq_false c1;have h2:=hwc.out;unfold i64ok at h2;rw[IntKind.wrap_u64];omega
   go_wp2_with fail
   go_quiet (first|(go_at_call 28;exact Calls.quiet_of_same (MX _ _)))
   go_wp2_with fail
   go_quiet (fail)
   go_wp2_with fail
   go_ret
   rw[World.drewN_drewN]
   exact hno'.out _ 163 R1
  ·have wu:IntKind.u64.wrap cl.cnt=cl.cnt:=by
    have h1:=of_decide_eq_false c1;have h2:=hwc.out;unfold i64ok at h2;rw[IntKind.wrap_u64];omega
   have ws:IntKind.i64.wrap (m.all+cl.cnt)=m.all+cl.cnt:=by
    have h1:=of_decide_eq_false c1;have h3:=of_decide_eq_false c3;have h2:=hab.out;rw[IntKind.wrap_i64];omega
   go_wp2_with fail
   go_quiet (first|(go_at_call 28;exact Calls.quiet_of_same (MX _ _)))
   go_wp2_with fail
   go_quiet (fail)
   go_wp2_with (first
    | (guard_target =~ wpList _ _ _ (Oper.mk _ (Op.load 34 _) _ _ _ _::_) _ _;go_must (refine wpList_ld 34 _ rfl rfl _ _ rfl (LN _) ?_);simp only[pts])
    | (guard_target =~ wpList _ _ _ (Oper.mk _ (Op.store 34 _ _) _ _ _ _::_) _ _;go_must (refine wpList_st 34 _ _ rfl rfl _ _ rfl rfl (SN _) ?_);simp only[pts]))
   go_ret
   exact hyes'.out _ N hNw R1 hNg
 ·refine lw_al (al_tk V1.drew) ⟨⟨_,pI _ (hBd.trans ((bel1 V1.drew zTkD).mono hBd.size))⟩,rfl⟩ (by rfl) ?_
  simp only[pts]
  have hBz:Below V1.heap.size V1 (V1.drew.alloc zTkD):=hBd.trans ((bel1 V1.drew zTkD).mono hBd.size)
  refine lw_call2 ent_Member (MB.out _ (HB1.out.trans (hBz.mono HB1.out.size))) rfl rfl (by rfl) (fun v w2 hR=>?_)
  obtain⟨rfl,hb2⟩:=hR.out
  have hp2:Below V1.heap.size V1 w2:=hBz.trans (hb2.mono hBz.size)
  have hTz:w2.heap[V1.drew.heap.size]?=some zTkD:=(hb2.block _ (by simp)).trans (heap_al _ _)
  refine⟨⟨⟨_,pI _ hp2⟩,rfl⟩,?_⟩
  simp only[pts]
  repeat (first|(refine lw_ld LT2 rfl (by rfl) ?_;simp only[pts])|(refine lw_one rfl ?_;(first|go_big_quiet_skip|(go_big_quiet_want;go_big_quiet_op;go_big_quiet_on));refine wpQuiet_nil ?_))
  refine lw_st (tk_st hTz u pu cu) rfl rfl (by rfl) ?_
  simp only[pts]
  have hT2:(w2.setRow V1.drew.heap.size (tkC u pu cu).toArray).heap[V1.drew.heap.size]?=some (tkO u pu cu):=setRow_heap _ _ _ _ _ _ hTz
  have hB2:Below V1.heap.size V1 (w2.setRow V1.drew.heap.size (tkC u pu cu).toArray):=bel_row hp2 (Nat.le_refl _)
  generalize w2.setRow V1.drew.heap.size (tkC u pu cu).toArray=V2 at *
  generalize V1.drew.heap.size=T at *
  clear hR hb2 hp2 pI pB pN r12 LT2 LC MB LT hBd hDS hTz hBz
  have y3:V2.cell? ⟨w.heap.size,3,none⟩=some (.int .i64 cl.cnt):=(hB2.cell (p:=⟨w.heap.size,3,none⟩) hXl).trans x3
  have y18:V2.cell? ⟨T,18,none⟩=some (.int .i64 u.b.p):=(tk_of hT2).c18
  have yb:V2.cell? ⟨b,16,none⟩=some (.int .i64 a):=(hB2.cell (p:=⟨b,16,none⟩) hbl).trans b16
  have hNN:V2.heap[N]?=some (dmO f (some ⟨gt,ot,none⟩) cp (.slice (some ⟨go1,0,none⟩) m.op.length cap1) (m.group:Int) m.count m.all):=(hB2.block _ hNl).trans hN1.out
  have yN:V2.cell? ⟨N,16,none⟩=some (.int .i64 m.all):=cell_at hNN 16
  have yf:V2.frozen? ⟨N,16,none⟩=false:=froz_of hNN
  have LN:∀ n,(Instr.loadAt 34 (.pointer (some ⟨N,0,none⟩))).run Tryz.prog ((V2.drewN n).setCell ⟨N,16,none⟩ (.int .i64 (m.all+cl.cnt))) = .ok (dmV f (some ⟨gt,ot,none⟩) cp (.slice (some ⟨go1,0,none⟩) m.op.length cap1) (m.group:Int) m.count (m.all+cl.cnt)) ((V2.drewN n).setCell ⟨N,16,none⟩ (.int .i64 (m.all+cl.cnt))):=fun n=>dm_ld (set_blkA (W:=V2.drewN n) hNN _)
  obtain⟨hno,hyes⟩:=FIN.out go1 cap1 V2 hgo (HB1.out.trans (hB2.mono HB1.out.size)) (hOp.out V2 hB2)
  have hNb:N≠b:=by omega
  have hbV:∀ n,((V2.drewN n).setCell ⟨N,16,none⟩ (.int .i64 (m.all+cl.cnt))).heap[b]?=some (dmO f (some ⟨gt,ot,none⟩) cp (.slice (some ⟨go,0,none⟩) zs.length cap) (g:Int) c a):=fun n=>(set_oth (w:=V2.drewN n) hNb).trans ((hB2.block b hbl).trans hbb.out)
  have SN:∀ n,(Instr.storeAt 34 (.pointer (some ⟨b,0,none⟩)) (dmV f (some ⟨gt,ot,none⟩) cp (.slice (some ⟨go1,0,none⟩) m.op.length cap1) (m.group:Int) m.count (m.all+cl.cnt))).run Tryz.prog ((V2.drewN n).setCell ⟨N,16,none⟩ (.int .i64 (m.all+cl.cnt))) = .ok () (((V2.drewN n).setCell ⟨N,16,none⟩ (.int .i64 (m.all+cl.cnt))).setRow b (dmA f (some ⟨gt,ot,none⟩) cp (.slice (some ⟨go1,0,none⟩) m.op.length cap1) (m.group:Int) m.count (m.all+cl.cnt))):=fun n=>dm_st (hbV n) rfl _ _ _ _ _ _ _ _ _
  have hno':Hid _:=⟨hno⟩
  have hyes':Hid _:=⟨hyes⟩
  have MX:=fun p W=>refMax_any p W
  clear hT2 hB2 hNN hno hyes hbV
  rcases hcs.out with ⟨c1,R1⟩|⟨c1,c2,R1⟩|⟨c1,c2,c3,R1⟩|⟨c1,c2,c3,R1⟩
  ·go_wp2_with fail
   go_quiet (first|(go_at_call 28;exact Calls.quiet_of_same (MX _ _)))
   go_wp2_with fail
   go_ret
   exact hno'.out _ 141 R1
  ·have wu:IntKind.u64.wrap cl.cnt=cl.cnt:=by
    have h1:=of_decide_eq_false c1;have h2:=hwc.out;unfold i64ok at h2;rw[IntKind.wrap_u64];omega
   go_wp2_with fail
   go_quiet (first|(go_at_call 28;exact Calls.quiet_of_same (MX _ _)))
   go_wp2_with fail
   go_ret
   exact hno'.out _ 141 R1
  ·have wu:IntKind.u64.wrap cl.cnt=cl.cnt:=by
    have h1:=of_decide_eq_false c1;have h2:=hwc.out;unfold i64ok at h2;rw[IntKind.wrap_u64];omega
   go_wp2_with fail
   go_quiet (first|(go_at_call 28;exact Calls.quiet_of_same (MX _ _)))
   go_wp2_with fail
   go_quiet (fail)
   go_wp2_with fail
   go_ret
   rw[World.drewN_drewN]
   exact hno'.out _ 163 R1
  ·have wu:IntKind.u64.wrap cl.cnt=cl.cnt:=by
    have h1:=of_decide_eq_false c1;have h2:=hwc.out;unfold i64ok at h2;rw[IntKind.wrap_u64];omega
   have ws:IntKind.i64.wrap (m.all+cl.cnt)=m.all+cl.cnt:=by
    have h1:=of_decide_eq_false c1;have h3:=of_decide_eq_false c3;have h2:=hab.out;rw[IntKind.wrap_i64];omega
   go_wp2_with fail
   go_quiet (first|(go_at_call 28;exact Calls.quiet_of_same (MX _ _)))
   go_wp2_with fail
   go_quiet (fail)
   go_wp2_with (first
    | (guard_target =~ wpList _ _ _ (Oper.mk _ (Op.load 34 _) _ _ _ _::_) _ _;go_must (refine wpList_ld 34 _ rfl rfl _ _ rfl (LN _) ?_);simp only[pts])
    | (guard_target =~ wpList _ _ _ (Oper.mk _ (Op.store 34 _ _) _ _ _ _::_) _ _;go_must (refine wpList_st 34 _ _ rfl rfl _ _ rfl rfl (SN _) ?_);simp only[pts]))
   go_ret
   exact hyes'.out _ N hNw R1 hNg
theorem here_len (h:hereD l m k cnt nm=some m'):0<m'.op.length/\m'.op.length<=m.op.length+1:=by
 obtain⟨op,g,c,a⟩:=m
 unfold hereD at h
 cases op with
 | nil=>cases h
 | cons d r =>
  simp only at h
  repeat' split at h
  all_goals first|(cases h;done)|(cases h;simp)
theorem leave_len (h:leavesD l m=some m'):m'.op.length+1=m.op.length:=by
 obtain⟨op,g,c,a⟩:=m
 unfold leavesD at h
 rcases op with _|⟨d,_|⟨e,r⟩⟩
 ·cases h
 ·cases h
 ·simp only at h
  split at h
  ·cases h
  ·cases h
   simp
theorem may_len:∀ (n:Nat) {m m':DM},mayF l k cnt nm n m=some m'->0<m'.op.length/\m'.op.length<=m.op.length+1
 | 0,_,_,h=>by cases h
 | n+1,m,m',h=>by
  rw[mayF] at h
  cases hh:hereD l m k cnt nm with
  | some m2=>rw[hh] at h;cases h;exact here_len hh
  | none =>
   rw[hh] at h
   cases hl:leavesD l m with
   | none=>rw[hl] at h;cases h
   | some m2 =>
    rw[hl] at h
    have h1:=may_len n h
    have h2:=leave_len hl
    omega
theorem RM.all_ (h:RM f s m):0<=m.all/\m.all<=65536:=by
 have h1:=h.r.1
 have h2:=h.ok.e0
 have h3:=h.ok.e1
 omega
theorem RM.step (hz:chkZ f=none) (h:RM f s m) (k cnt:Int) (nm:ByteArray):RM f (stepZ f.toks s k cnt nm).2 (stepD f.toks m k cnt nm).2:=by
 have h1:=step_ok hz h.ok h.i k cnt nm
 exact⟨h1.1,h1.2,(stepD_eq hz h.ok h.i h.r k cnt nm).2⟩
theorem dStep_any (hz:chkZ f=none) (h:DS w b go cap f pp cp zs g c a) (tl:TkL w pp w.heap.size f.toks) (rm:RM f s ⟨zs.reverse,g,c,a⟩) (cl:Cl) (hct:i64ok cl.cnt) :
  Calls Tryz.prog 10 #[.pointer (some ⟨b,0,none⟩),caV cl] w (StD b go f pp cp (stepD f.toks ⟨zs.reverse,g,c,a⟩ cl.k cl.cnt cl.nm) w):=by
 by_cases hk:cl.k<0\/3<cl.k
 ·exact step_0 hz h tl rm cl hk
 ·have hk2:0<=cl.k/\cl.k<=3:=by omega
  cases hm:mayF f.toks cl.k cl.cnt cl.nm zs.length ⟨zs.reverse,g,c,a⟩ with
  | none=>exact step_1 hz h tl rm cl hk2 hm
  | some m =>
   have hl:=may_len _ hm
   have h3:zs.reverse.length<=65537:=(rm.lv hz).2.2.1
   have h4:m.op.length<=zs.reverse.length+1:=hl.2
   have hml:0<m.op.length/\m.op.length<=1000000:=⟨hl.1,by omega⟩
   by_cases hk1:cl.k=1
   ·exact step_3 hz h tl rm cl hk1 m hm hml hct rm.all_
   ·exact step_2 hz h tl rm cl hk2 hk1 m hm hml
theorem dInside_any {ys:List DL} {d:DL} (h:DS w b go cap f pp cp (ys++[d]) g c a) :
  Calls Tryz.prog 30 #[.pointer (some ⟨b,0,none⟩)] w fun e w'=>e = .returned (.int .i64 (d.at_:Int))/\Below w.heap.size w w':=by
 obtain⟨p,p0,pB,pI,pN,c13,c14,c15,c16,k0,k1,k2,k3,LF,c12⟩:=clsD h
 have zl:ys.length<=1000000:=by have:=h.zl;simp at this;omega
 have lK:(ys.length:Int)<(ys.length:Int)+1:=by omega
 have hw1:IntKind.i64.wrap ((ys.length:Int)+1-1)=(ys.length:Int):=by rw[IntKind.wrap_i64];omega
 clear h
 generalize ys.length=K at *
 go_enter Tryz.func30,Tryz.ntmps30
 go_wp2_with fail
 refine wp_region_ly (fun V=>∃ θ:CW p,V=θ.w) (by kernel_rfl) (by kernel_rfl) (fun _ _ d _ _ h=>by cases d<;>exact h) ⟨⟨_,p0⟩,rfl⟩ ?_
 repeat (refine ly_one rfl ?_;(first|go_big_quiet_skip|(go_big_quiet_want;go_big_quiet_op;go_big_quiet_on));refine wpQuiet_nil ?_)
 refine ly_done ?_
 go_wp2_with fail
 go_ret
 exact⟨rfl,pB _ p0⟩
def lfD (zs:List DL) (g:Nat) (c:Int):List Nat:=(zs.drop 1).map (fun d=>d.left.toNat)++(if g≠0 then [c.toNat] else [])
def lfK (ds:List DL) (k:Nat):List Nat:=(ds.take k).map fun d=>d.left.toNat
theorem dLeft_any {d0:DL} {ds:List DL} (h:DS w b go cap f pp cp (d0::ds) g c a) (hl:∀ d∈ds,0<=d.left) (hc:g≠0->0<=c) :
  Calls Tryz.prog 31 #[.pointer (some ⟨b,0,none⟩)] w fun e w'=>∃ v,e = .returned v/\NRow w' w.heap.size v (lfD (d0::ds) g c)/\Below w.heap.size w w':=by
 have b13:w.cell? ⟨b,13,none⟩=some (.slice (some ⟨go,0,none⟩) (ds.length+1) cap):=cell_at h.c 13
 have b14:w.cell? ⟨b,14,none⟩=some (.int .i64 (g:Int)):=cell_at h.c 14
 have b15:w.cell? ⟨b,15,none⟩=some (.int .i64 c):=cell_at h.c 15
 have hcap:(ds.length:Int)+1<=(cap:Int):=by
  obtain⟨cur,_,hh,_⟩:=h.o
  simp at hh
  omega
 have zl:ds.length<=1000000:=by have:=h.zl;simp at this;omega
 have H:Hid (∀ W,Below w.heap.size w W->DS W b go cap f pp cp (d0::ds) g c a):=⟨fun W hW=>h.below hW⟩
 have hl':Hid _:=⟨hl⟩
 have hc':Hid _:=⟨hc⟩
 clear h hl hc
 have hend:Hid (∀ (v:Value) (W:World),NRow W w.heap.size v (lfK ds ds.length)->NRow W w.heap.size v (ds.map fun d=>d.left.toNat)):=⟨fun v W hh=>by unfold lfK at hh;rw[List.take_length] at hh;exact hh⟩
 have hG:((g:Int) != 0)=decide (g≠0):=by by_cases e:g=0<;>simp[e]
 have hgo:go<w.heap.size:=(H.out w (Below.refl _ _)).lt.2
 have hbl:b<w.heap.size:=(H.out w (Below.refl _ _)).lt.1
 obtain⟨cN,hcN⟩:∃ n:Nat,g≠0->c=n:=⟨c.toNat,fun e=>by have:=hc'.out e;omega⟩
 obtain⟨LL,hLL,hL0,hL1⟩:∃ LL,lfD (d0::ds) g c=LL/\Hid (g=0->LL=ds.map fun d=>d.left.toNat)/\Hid (g≠0->LL=(ds.map fun d=>d.left.toNat)++[cN]):=⟨_,rfl,⟨fun e=>by unfold lfD;rw[if_neg (fun h=>h e)];simp⟩,⟨fun e=>by unfold lfD;rw[if_pos e,hcN e];simp⟩⟩
 rw[hLL]
 clear hLL
 have TAIL:Hid (∀ W,Below w.heap.size w W->W.cell? ⟨b,14,none⟩=some (.int .i64 (g:Int))/\W.cell? ⟨b,15,none⟩=some (.int .i64 c)):=⟨fun W hW=>⟨(hW.cell (p:=⟨b,14,none⟩) hbl).trans b14,(hW.cell (p:=⟨b,15,none⟩) hbl).trans b15⟩⟩
 by_cases hc1:cap=1
 ·have hd0:ds=[]:=by cases ds with|nil=>rfl|cons x r=>simp at hcap;omega
  subst hd0
  subst hc1
  go_enter Tryz.func31,Tryz.ntmps31
  go_wp2_with fail
  go_loopw [12,3] (fun q12 q3 wr=>q12 = .int .i64 0/\q3 = .slice none 0 0/\Hid (Below w.heap.size w wr)) (fun _ _ _=>0)
  case atStart=>exact⟨by go_num,rfl,⟨Below.refl _ _⟩⟩
  case round =>
   obtain⟨rfl,rfl,hB⟩:=hrel
   rename World=>wr
   have hI2:NRow wr w.heap.size (.slice none 0 0) ([].map fun d:DL=>d.left.toNat):=NRow.nil _ _
   obtain⟨y14,y15⟩:=TAIL.out _ hB.out
   by_cases hg:g=0
   ·have g1:decide (g≠0)=false:=by simp[hg]
    rw[g1] at hG
    have hLe:=hL0.out hg
    rw[<- hLe] at hI2
    have hI3:Hid _:=⟨hI2⟩
    clear hI2 hg g1 hLe hcN b14 b15
    go_wp2_with fail
    go_ret
    exact⟨_,rfl,hI3.out,hB.out⟩
   ·have g1:decide (g≠0)=true:=by simp[hg]
    rw[g1] at hG
    have hcc:=hcN hg
    rw[hcc] at y15
    have hap0:=n_ap cN hI2 (by simp<;>omega) hB.out.size
    rw[<- hL1.out hg] at hap0
    have hap:Hid _:=⟨hap0⟩
    clear hI2 hg g1 hcc hcN hap0 b14 b15
    go_wp2_with (at_builtin;go_must (refine(ap_step (by rfl) _ _ _ _ (by rfl) _ _ (by rfl) (by rfl) _ hap.out ?_));rintro v' w' ⟨q1,q2⟩;replace q1:=Hid.mk q1;replace q2:=Hid.mk q2)
    go_ret
    exact⟨_,rfl,q1.out,hB.out.trans q2.out⟩
 ·have hlnl:(lfK ds ds.length).length<=1000000:=by unfold lfK;simp;omega
  go_enter Tryz.func31,Tryz.ntmps31
  go_wp2_with fail
  go_loopw [12,3] (fun q12 q3 wr=>∃ k:Nat,k<=ds.length/\q12 = .int .i64 k/\Hid (NRow wr w.heap.size q3 (lfK ds k))/\Hid (Below w.heap.size w wr)) (fun q12 _ _=>ds.length-(RowKit.intOf q12).toNat)
  case atStart=>exact⟨0,Nat.zero_le _,by go_num,⟨NRow.nil _ _⟩,⟨Below.refl _ _⟩⟩
  case round =>
   obtain⟨k,hk,rfl,hI,hB⟩:=hrel
   rename World=>wr
   by_cases hlt:k<ds.length
   ·obtain⟨d,hd⟩:∃ d,ds[k]?=some d:=⟨ds[k],List.getElem?_eq_getElem hlt⟩
    obtain⟨L,eL⟩:∃ L:Nat,d.left=L:=⟨d.left.toNat,by have:=hl'.out d (List.mem_of_getElem? hd);omega⟩
    have hdk:(d0::ds)[k+1]?=some d:=by simpa using hd
    have hlti:(k:Int)<ds.length:=by omega
    have hD:=H.out wr hB.out
    have e4:∀ j,(k+1)*4+j=4+k*4+j:=fun j=>by omega
    have a0:wr.cell? ⟨go,4+k*4,none⟩=some (.int .i64 (d.at_:Int)):=by have:=hD.o.at hdk 0 (by decide);rw[e4] at this;exact this
    have a1:wr.cell? ⟨go,4+k*4+1,none⟩=some (.int .i64 (d.next:Int)):=by have:=hD.o.at hdk 1 (by decide);rw[e4] at this;exact this
    have a2:wr.cell? ⟨go,4+k*4+2,none⟩=some (.int .i64 (L:Int)):=by have:=hD.o.at hdk 2 (by decide);rw[e4] at this;rw[<- eL];exact this
    have a3:wr.cell? ⟨go,4+k*4+3,none⟩=some (.bool d.block):=by have:=hD.o.at hdk 3 (by decide);rw[e4] at this;exact this
    have hlk:(lfK ds k).length+1<=977343669134:=by unfold lfK;simp;omega
    have hB1:=bel1 wr (.cells #[.int .i64 (d.at_:Int),.int .i64 (d.next:Int),.int .i64 (L:Int),.bool d.block] 55)
    have hap0:=n_ap (wr:=wr.alloc (.cells #[.int .i64 (d.at_:Int),.int .i64 (d.next:Int),.int .i64 (L:Int),.bool d.block] 55)) L (own_keep hI.out hB1) hlk (Nat.le_trans hB.out.size (by simp))
    simp only[World.size_alloc] at hap0
    have hnx:lfK ds k++[L]=lfK ds (k+1):=by unfold lfK;rw[List.take_add_one,hd];simp[eL]
    rw[hnx] at hap0
    have hap:Hid _:=⟨hap0⟩
    clear hap0
    have hw2:IntKind.i64.wrap ((k:Int)+1)=(k:Int)+1:=by rw[IntKind.wrap_i64];omega
    have hB1':Hid _:=⟨hB.out.trans (hB1.mono hB.out.size)⟩
    clear hD hdk hd eL e4 hnx hB1
    go_wp2_with (at_builtin;go_must (refine(ap_step (by rfl) _ _ _ _ (by rfl) _ _ (by rfl) (by rfl) _ hap.out ?_));rintro v' w' ⟨q1,q2⟩;replace q1:=Hid.mk q1;replace q2:=Hid.mk q2)
    exact⟨⟨k+1,by omega,by go_num,⟨q1.out⟩,⟨hB1'.out.trans q2.out⟩⟩,by simp[RowKit.intOf];omega⟩
   ·obtain rfl:k=ds.length:=by omega
    have hI2:=hend.out _ _ hI.out
    clear hI
    obtain⟨y14,y15⟩:=TAIL.out _ hB.out
    by_cases hg:g=0
    ·have g1:decide (g≠0)=false:=by simp[hg]
     rw[g1] at hG
     have hLe:=hL0.out hg
     rw[<- hLe] at hI2
     have hI3:Hid _:=⟨hI2⟩
     clear hI2 hg g1 hLe hcN b14 b15
     go_wp2_with fail
     go_ret
     exact⟨_,rfl,hI3.out,hB.out⟩
    ·have g1:decide (g≠0)=true:=by simp[hg]
     rw[g1] at hG
     have hcc:=hcN hg
     rw[hcc] at y15
     have hap0:=n_ap cN hI2 (by simp<;>omega) hB.out.size
     rw[<- hL1.out hg] at hap0
     have hap:Hid _:=⟨hap0⟩
     clear hI2 hg g1 hcc hcN hap0 b14 b15
     go_wp2_with (at_builtin;go_must (refine(ap_step (by rfl) _ _ _ _ (by rfl) _ _ (by rfl) (by rfl) _ hap.out ?_));rintro v' w' ⟨q1,q2⟩;replace q1:=Hid.mk q1;replace q2:=Hid.mk q2)
     go_ret
     exact⟨_,rfl,q1.out,hB.out.trans q2.out⟩
theorem doneF_no (h:1<m.op.length\/m.group≠0) (h2:leavesD l m=none):doneF l n m=false:=by
 cases n with
 | zero=>rfl
 | succ n=>rw[doneF,if_pos h,h2]
theorem doneF_more (h:1<m.op.length\/m.group≠0) (h2:leavesD l m=some m'):doneF l (n+1) m=doneF l n m':=by rw[doneF,if_pos h,h2]
structure DnI (w:World) (N go:Nat) (f:Fm) (pp:Option Addr) (cp:Nat) (R:Bool) (wr:World):Prop where
 d:∃ cap zs g c a s,DS wr N go cap f pp cp zs g c a/\RM f s ⟨zs.reverse,g,c,a⟩/\doneF f.toks zs.length ⟨zs.reverse,g,c,a⟩=R
 b:Below w.heap.size w wr
 n1:w.heap.size<=N
 n2:w.heap.size<=go
theorem dDone_any (hz:chkZ f=none) (h:DS w b go cap f pp cp zs g c a) (tl:TkL w pp w.heap.size f.toks) (rm:RM f s ⟨zs.reverse,g,c,a⟩) (hB0:∃ n t ks,Bgn f.toks 0 n t ks) :
  Calls Tryz.prog 29 #[.pointer (some ⟨b,0,none⟩)] w fun e w'=>e = .returned (.bool (doneF f.toks zs.length ⟨zs.reverse,g,c,a⟩))/\Below w.heap.size w w':=by
 generalize hR:doneF f.toks zs.length ⟨zs.reverse,g,c,a⟩=R
 have CP:=dCopy_any h
 have zl:=h.zl
 have z1:=h.z1
 obtain⟨n0,t0,ks0,hBg⟩:=hB0
 have TL:Hid (∀ W,Below w.heap.size w W->TkL W pp W.heap.size f.toks):=⟨fun W hW=>(tl.below hW).mono hW.size⟩
 have RW:Hid (∀ W,Below w.heap.size w W->Calls Tryz.prog 51 #[fmV f pp cp,.int .i64 0] W fun r w'=>∃ v,r = .returned v/\Hid (NRow w' W.heap.size v (rowZ f.toks 0))/\Hid (Below W.heap.size W w')):=⟨fun W hW=>(refRow_any f 0 n0 t0 ks0 pp cp W (TL.out W hW) hBg).mono fun r w' ⟨v,h1,h2,h3⟩=>⟨v,h1,⟨h2⟩,⟨h3⟩⟩⟩
 have rl:Hid ((rowZ f.toks 0).length<=1000000000000):=⟨by have:=rowZ_le' f.toks 0;have:=tl.len;omega⟩
 have LFb:Hid (∀ W,Below w.heap.size w W->(Instr.loadAt 30 (.pointer (some ⟨b,0,none⟩))).run Tryz.prog W = .ok (fmV f pp cp) W):=⟨fun W hW=>by
  have hne:zs≠[]:=fun e=>by rw[e] at z1;simp at z1
  have hh:=h.below hW
  rw[<- List.dropLast_concat_getLast hne] at hh
  obtain⟨p,p0,pB,pI,pN,c13,c14,c15,c16,k0,k1,k2,k3,LF,c12⟩:=clsD hh
  exact LF W ⟨⟨W,pI W (Below.refl _ _)⟩,rfl⟩⟩
 have ST:Hid (∀ w1 go1 cap1,CpD f pp cp zs g c a w go1 cap1 w1->DnI w w1.heap.size go1 f pp cp R (w1.alloc (dmO f pp cp (.slice (some ⟨go1,0,none⟩) zs.length cap1) (g:Int) c a))):=⟨fun w1 go1 cap1 hc=>by
  have e1:=hc.b.size
  have hb:=hc.b.trans ((bel1 w1 (dmO f pp cp (.slice (some ⟨go1,0,none⟩) zs.length cap1) (g:Int) c a)).mono e1)
  exact⟨⟨cap1,zs,g,c,a,s,ds_new hc.o zl z1,rm,hR⟩,hb,e1,hc.ge⟩⟩
 clear h tl rm hR hBg
 go_enter Tryz.func29,Tryz.ntmps29
 go_wp2_with (first
  | (go_at_call 8;refine CP.mono ?_;rintro _ w1 ⟨go1,cap1,rfl,hc⟩;have S1:=fun z hz=>dm_new w1 z hz f pp cp (some ⟨go1,0,none⟩) zs.length cap1 (g:Int) c a;have I1:=ST.out w1 go1 cap1 hc;replace I1:=Hid.mk I1;clear hc)
  | (guard_target =~ wpList _ _ _ (Oper.mk _ (Op.store 34 _ _) _ _ _ _::_) _ _;go_must (refine wpList_st 34 _ _ rfl rfl _ _ rfl rfl (S1 _ rfl) ?_);simp only[pts]))
 generalize w1.heap.size=N at *
 generalize w1.alloc (dmO f pp cp (.slice (some ⟨go1,0,none⟩) zs.length cap1) (g:Int) c a)=WL at *
 clear S1 CP ST
 go_loopw [6] (fun _ wr=>DnI w N go1 f pp cp R wr) (fun _ wr=>lenAt N wr)
 case atStart=>exact I1.out
 case round =>
  clear I1
  rename World=>wr
  obtain⟨⟨cap2,zs2,g2,c2,a2,s2,hD,hrm,hRR⟩,hb,n1,n2⟩:=hrel
  have z1':=hD.z1
  have zl':=hD.zl
  have hlen:=lenAt_of hD
  have hNl:=hD.lt
  have y13:wr.cell? ⟨N,13,none⟩=some (.slice (some ⟨go1,0,none⟩) zs2.length cap2):=cell_at hD.c 13
  have y14:wr.cell? ⟨N,14,none⟩=some (.int .i64 (g2:Int)):=cell_at hD.c 14
  have hne':zs2≠[]:=fun e=>by rw[e] at z1';simp at z1'
  obtain⟨ys,d,rfl⟩:∃ ys d,zs2=ys++[d]:=⟨zs2.dropLast,zs2.getLast hne',(List.dropLast_concat_getLast hne').symm⟩
  have hcnd:((decide (1<((ys++[d]).length:Int))=true/\True)\/(decide (1<((ys++[d]).length:Int))=false/\((g2:Int) != 0)=true))/\(1<(ys++[d]).reverse.length\/g2≠0)\/(ys=[]/\g2=0):=by
   by_cases e1:ys=[]
   ·by_cases e2:g2=0
    ·exact .inr ⟨e1,e2⟩
    ·exact .inl ⟨.inr ⟨by rw[e1];rfl,by simp[e2]⟩,.inr e2⟩
   ·have:1<(ys++[d]).length:=by
     cases ys with
     | nil=>exact absurd rfl e1
     | cons x r=>simp
    exact .inl ⟨.inl ⟨decide_eq_true (by omega),trivial⟩,.inl (by rw[List.length_reverse];exact this)⟩
  rcases hcnd with ⟨hcd,hgt⟩|⟨e1,e2⟩
  ·obtain⟨hlv,-,-,-,-⟩:=hrm.lv hz
   have hdB:∃ n t ks,Bgn f.toks d.at_ n t ks:=by
    obtain⟨n,t,ks,hh⟩:=(hlv d (by show d∈(ys++[d]).reverse;simp)).b
    exact⟨n,t,ks,hh.bg⟩
   have htl:f.toks.length<=1000000000000:=by have:=(TL.out _ hb).len;omega
   have hN:∀ e∈ys,(e.next:Int)<=1000000000000:=fun e he=>by
    have:=(hlv e (by show e∈(ys++[d]).reverse;simp[he])).nx
    omega
   cases hL:leavesD f.toks ⟨(ys++[d]).reverse,g2,c2,a2⟩ with
   | none =>
    have hRf:R=false:=by rw[<- hRR];exact doneF_no hgt hL
    have LE:Calls Tryz.prog 50 #[.pointer (some ⟨N,0,none⟩)] wr fun e w4=>e = .returned (.bool false)/\Hid (Below w.heap.size w w4):=by
     refine(dLeaves_any hD (TL.out _ hb) hdB hN).mono ?_
     intro e w4 hP
     unfold LvP at hP
     rw[hL] at hP
     exact⟨hP.1,⟨hb.trans (hP.2.mono hb.size)⟩⟩
    generalize ys++[d]=zs2 at *
    clear hD hrm hb hRR hlen TL hlv hN hdB hL hgt RW LFb rl
    rcases hcd with ⟨g1,-⟩|⟨g1,g2'⟩
    ·go_wp2_with (first
      | (go_at_call 50;refine LE.mono ?_;rintro _ w4 ⟨rfl,hQ⟩))
     go_ret
     exact⟨by rw[hRf];rfl,hQ.out⟩
    ·go_wp2_with (first
      | (go_at_call 50;refine LE.mono ?_;rintro _ w4 ⟨rfl,hQ⟩))
     go_ret
     exact⟨by rw[hRf];rfl,hQ.out⟩
   | some m =>
    obtain⟨s3,hrm3,hl3⟩:=hrm.leave hL
    have LE:Calls Tryz.prog 50 #[.pointer (some ⟨N,0,none⟩)] wr fun e w4=>e = .returned (.bool true)/\Hid (DnI w N go1 f pp cp R w4/\lenAt N w4<lenAt N wr):=by
     refine(dLeaves_any hD (TL.out _ hb) hdB hN).mono ?_
     intro e w4 hP
     unfold LvP at hP
     rw[hL] at hP
     obtain⟨rfl,hD4,hkb⟩:=hP
     have hbk:Below w.heap.size wr w4:=kb_below hkb (by intro k hk;simp at hk;omega) hb.size
     have hml:m.op.reverse.length=m.op.length:=List.length_reverse
     have hzl:(ys++[d]).length=m.op.length+1:=by have:m.op.length+1=(ys++[d]).reverse.length:=hl3;rw[List.length_reverse] at this;exact this.symm
     refine⟨rfl,⟨⟨⟨cap2,m.op.reverse,m.group,m.count,m.all,s3,hD4,by rw[List.reverse_reverse];exact hrm3,?_⟩,hb.trans hbk,n1,n2⟩,?_⟩⟩
     ·rw[List.reverse_reverse,hml,<- hRR,hzl,doneF_more hgt hL]
     ·rw[lenAt_of hD4,hlen,hml,hzl]
      omega
    generalize ys++[d]=zs2 at *
    clear hD hrm hb hRR hlen TL hlv hN hdB hL hgt RW LFb rl hrm3 hl3
    rcases hcd with ⟨g1,-⟩|⟨g1,g2'⟩
    ·go_wp2_with (first
      | (go_at_call 50;refine LE.mono ?_;rintro _ w4 ⟨rfl,hQ⟩))
     exact⟨hQ.out.1,hQ.out.2⟩
    ·go_wp2_with (first
      | (go_at_call 50;refine LE.mono ?_;rintro _ w4 ⟨rfl,hQ⟩))
     exact⟨hQ.out.1,hQ.out.2⟩
  ·subst e1
   subst e2
   have hD':=hD
   obtain⟨p,p0,pB,pI,pN,c13,c14,c15,c16,k0,k1,k2,k3,LF0,c12⟩:=clsD hD'
   have hcap:(1:Int)<=(cap2:Int):=by
    obtain⟨cur,_,hh,_⟩:=hD.o
    simp at hh
    omega
   have LF:∀ W,(∃ θ:CW p,W=θ.w)->(Instr.loadAt 30 (.pointer (some ⟨b,0,none⟩))).run Tryz.prog W = .ok (fmV f pp cp) W:=by
    rintro _ ⟨θ,rfl⟩
    exact LFb.out _ (hb.trans ((pB _ θ.h).mono hb.size))
   have RW1:=RW.out _ (hb.trans ((pB _ p0).mono hb.size))
   have hRv:R=decide (d.next=(rowZ f.toks 0).length):=by rw[<- hRR];rfl
   have hdn:((d.next:Int)==((rowZ f.toks 0).length:Int))=R:=by
    rw[hRv]
    by_cases e:d.next=(rowZ f.toks 0).length
    ·rw[e];simp
    ·rw[decide_eq_false e];simp;omega
   have FB:Hid (∀ W,p W->Below w.heap.size w W):=⟨fun W hW=>hb.trans ((pB _ hW).mono hb.size)⟩
   simp only[List.nil_append,List.length_nil,List.length_cons,Nat.zero_mul,Nat.zero_add] at c13 k0 k1 k2 k3 y13
   clear hD hD' hrm hb hRR hlen TL RW LFb LF0 rl hRv c12 k0 k2 k3 c14 c15 c16
   go_wp2_with fail
   refine wp_region_ly (fun V=>∃ θ:CW p,V=θ.w) (by kernel_rfl) (by kernel_rfl) (fun _ _ d _ _ h=>by cases d<;>exact h) ⟨⟨_,p0⟩,rfl⟩ ?_
   repeat (first|(refine ly_ld LF rfl (by rfl) ?_;simp only[pts])|(refine ly_one rfl ?_;(first|go_big_quiet_skip|(go_big_quiet_want;go_big_quiet_op;go_big_quiet_on));refine wpQuiet_nil ?_))
   refine ly_call2 ent_Row RW1 rfl rfl (by rfl) (fun v w1 hR=>?_)
   obtain⟨hR1,hR2⟩:=hR
   have p1:p w1:=pI _ ((pB _ p0).trans (hR2.out.mono (pB _ p0).size))
   obtain⟨vp,vc,rfl,-⟩:=hR1.out.shape
   refine⟨fun V=>∃ θ:CW p,V=θ.w,fun _ h=>h,⟨⟨_,p1⟩,rfl⟩,?_⟩
   simp only[pts]
   repeat (refine ly_one rfl ?_;(first|go_big_quiet_skip|(go_big_quiet_want;go_big_quiet_op;go_big_quiet_on));refine wpQuiet_nil ?_)
   refine ly_done ?_
   go_wp2_with fail
   go_ret
   exact⟨rfl,FB.out _ p1⟩
end Go.Proofs.YtbhmciieiilcfaaGreatDoor

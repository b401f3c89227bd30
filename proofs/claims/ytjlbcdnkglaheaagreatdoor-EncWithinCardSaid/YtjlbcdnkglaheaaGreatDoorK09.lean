import Derived.Test.YtjlbcdnkglaheaaGreatDoorK08
import Derived.Laws.EntriesVeiled
namespace Go.Proofs.YtjlbcdnkglaheaaGreatDoor
set_option maxRecDepth 1000000
set_option maxHeartbeats 16000000
open Go.ChangeShapes Go.WideShapes Go.ChangeAt Go.RowKit Go.Shelf Go.Maps
theorem group_none (l:List Tk) (a go cap n lo hi:Nat) (zs:List (Nat×Lv)) (ent:Int) (y:Nat×Lv) (c:Cl) (w:World) (h:TM l w a go cap n lo hi zs ent y) (ho:LvOk l y.2) (hll:(rowZ l y.2.p).length<=733007751850) (hm:memZ l y.2 c.k c.nm=none) :
  Calls Tryz.prog 70 #[.pointer (some ⟨a,0,none⟩),caV c] w fun r w'=>r = .returned (.int .i64 140)/\Below w.heap.size w w':=by
 have hB:Hid (Below w.heap.size w (w.alloc (caO c))):=⟨bel1 _ _⟩
 have cM:=member_any l a go cap n lo hi zs ent y c _ (h.below hB.out) ho hll
 have hsz:Hid ((w.alloc (caO c)).heap.size=w.heap.size+1):=⟨World.size_alloc _ _⟩
 have hgo:Hid (go<w.heap.size):=⟨h.s.lt.2⟩
 have hal:Hid (a<w.heap.size):=⟨h.s.lt.1⟩
 have hgl:=h.gl
 have haL:=h.al
 have hna:a≠w.heap.size:=by have:=hal.out;omega
 have C:Hid (∀ W,Kb [go] (w.alloc (caO c)) W->W.cell? ⟨w.heap.size,3,none⟩=some (.int .i64 c.cnt)/\Kb [go] w W):=⟨fun W hb=>by
  obtain⟨_,_,e3⟩:=cl_new w c
  exact⟨(cell_blk (hb.block w.heap.size (by have:=hsz.out;omega) (by have:=hgo.out;simp;omega))).trans e3,(Kb.of_below hB.out).trans hb⟩⟩
 obtain⟨c0,c1,c3⟩:=cl_new w c
 have c2:(w.alloc (caO c)).cell? ⟨w.heap.size,2,none⟩=some c.ws:=cell_at (heap_al _ _) 2
 have c4:(w.alloc (caO c)).cell? ⟨w.heap.size,4,none⟩=some (.string c.tx):=cell_at (heap_al _ _) 4
 rw[hm] at cM
 generalize hW:w.alloc (caO c)=W at cM hB C hsz c0 c1 c2 c3 c4
 simp only[caO] at hW
 clear h ho hll hm
 have cM:Hid (Calls Tryz.prog 105 #[.pointer (some ⟨a,0,none⟩),caV c] W fun r w'=>r = .returned (.tuple #[.pointer none,.int .i64 140])/\Below W.heap.size W w'):=⟨cM⟩
 go_enter Tryz.func70,Tryz.ntmps70
 go_wp2_with (go_at_call 105;refine cM.out.mono ?_;rintro _ w1 ⟨rfl,hb1⟩;replace hb1:=Hid.mk hb1)
 go_ret
 exact⟨rfl,hB.out.trans (hb1.out.mono hB.out.size)⟩
theorem group_count (l:List Tk) (a go cap n lo hi:Nat) (zs:List (Nat×Lv)) (ent:Int) (y:Nat×Lv) (c:Cl) (w:World) (h:TM l w a go cap n lo hi zs ent y) (ho:LvOk l y.2) (hll:(rowZ l y.2.p).length<=733007751850) (q:Nat) (hm:memZ l y.2 c.k c.nm=some q) (hcnt:c.cnt<0\/gmax (bpAt l q)<c.cnt) (hco:i64ok c.cnt) :
  Calls Tryz.prog 70 #[.pointer (some ⟨a,0,none⟩),caV c] w fun r w'=>r = .returned (.int .i64 141)/\SM w' a go cap (n+1) (zs.set n (y.1,⟨y.2.p,y.2.left,y.2.begun,y.2.come+1⟩)) ent/\Kb [go] w w':=by
 have hB:Hid (Below w.heap.size w (w.alloc (caO c))):=⟨bel1 _ _⟩
 have cM:=member_any l a go cap n lo hi zs ent y c _ (h.below hB.out) ho hll
 have hsz:Hid ((w.alloc (caO c)).heap.size=w.heap.size+1):=⟨World.size_alloc _ _⟩
 have hgo:Hid (go<w.heap.size):=⟨h.s.lt.2⟩
 have hal:Hid (a<w.heap.size):=⟨h.s.lt.1⟩
 have hgl:=h.gl
 have haL:=h.al
 have hna:a≠w.heap.size:=by have:=hal.out;omega
 have C:Hid (∀ W,Kb [go] (w.alloc (caO c)) W->W.cell? ⟨w.heap.size,3,none⟩=some (.int .i64 c.cnt)/\Kb [go] w W):=⟨fun W hb=>by
  obtain⟨_,_,e3⟩:=cl_new w c
  exact⟨(cell_blk (hb.block w.heap.size (by have:=hsz.out;omega) (by have:=hgo.out;simp;omega))).trans e3,(Kb.of_below hB.out).trans hb⟩⟩
 obtain⟨c0,c1,c3⟩:=cl_new w c
 have c2:(w.alloc (caO c)).cell? ⟨w.heap.size,2,none⟩=some c.ws:=cell_at (heap_al _ _) 2
 have c4:(w.alloc (caO c)).cell? ⟨w.heap.size,4,none⟩=some (.string c.tx):=cell_at (heap_al _ _) 4
 rw[hm] at cM
 generalize hW:w.alloc (caO c)=W at cM hB C hsz c0 c1 c2 c3 c4
 simp only[caO] at hW
 clear h ho hll hm
 have cM:Hid (Calls Tryz.prog 105 #[.pointer (some ⟨a,0,none⟩),caV c] W fun r w'=>∃ g,r = .returned (.tuple #[.pointer (some ⟨g,0,none⟩),.int .i64 0])/\PtA l w' lo hi g q/\SM w' a go cap (n+1) (zs.set n (y.1,⟨y.2.p,y.2.left,y.2.begun,y.2.come+1⟩)) ent/\Kb [go] W w'):=⟨cM⟩
 generalize hzs:(zs.set n (y.1,⟨y.2.p,y.2.left,y.2.begun,y.2.come+1⟩))=zs1 at cM ⊢
 clear hzs
 by_cases hc:c.cnt<0
 ·have b1:decide (c.cnt<0)=true:=decide_eq_true hc
  clear hcnt hc
  go_enter Tryz.func70,Tryz.ntmps70
  go_wp2_with (go_at_call 105;refine cM.out.mono ?_;rintro _ w1 ⟨g',rfl,h1,h2,h3⟩;obtain⟨x3,hk⟩:=C.out w1 h3;obtain⟨mm,kk,pr,cr,hrow,-,-⟩:=h1.row;have p3:w1.cell? ⟨g',3,none⟩=some (.int .u64 (gmax (bpAt l q))):=cell_at hrow 3;have m1:=h2.c1;have mf:w1.frozen? ⟨a,1,none⟩=false:=(by simp[World.frozen?,h2.c]);replace h1:=Hid.mk h1;replace h2:=Hid.mk h2;replace h3:=Hid.mk h3;replace hk:=Hid.mk hk;clear hrow)
  go_quiet (fail)
  go_wp2_with fail
  go_ret
  exact⟨rfl,⟨h2.out.c,h2.out.o,h2.out.kl,h2.out.k1,h2.out.ne,h2.out.zl⟩,⟨hk.out.os,hk.out.tape,hk.out.output,hk.out.size,hk.out.block⟩⟩
 ·have b1:decide (c.cnt<0)=false:=decide_eq_false hc
  have hg:gmax (bpAt l q)<c.cnt:=by omega
  have b2:decide (c.cnt > gmax (bpAt l q))=true:=decide_eq_true hg
  have hcv:IntKind.u64.wrap c.cnt=c.cnt:=by rw[IntKind.wrap_u64];obtain⟨h1,h2⟩:=hco;omega
  have b3:decide (gmax (bpAt l q)<c.cnt)=true:=decide_eq_true hg
  clear hcnt hc hg
  go_enter Tryz.func70,Tryz.ntmps70
  go_wp2_with (go_at_call 105;refine cM.out.mono ?_;rintro _ w1 ⟨g',rfl,h1,h2,h3⟩;obtain⟨x3,hk⟩:=C.out w1 h3;obtain⟨mm,kk,pr,cr,hrow,-,-⟩:=h1.row;have p3:w1.cell? ⟨g',3,none⟩=some (.int .u64 (gmax (bpAt l q))):=cell_at hrow 3;have m1:=h2.c1;have mf:w1.frozen? ⟨a,1,none⟩=false:=(by simp[World.frozen?,h2.c]);replace h1:=Hid.mk h1;replace h2:=Hid.mk h2;replace h3:=Hid.mk h3;replace hk:=Hid.mk hk;clear hrow)
  go_quiet (fail)
  go_wp2_with fail
  go_ret
  exact⟨rfl,⟨h2.out.c,h2.out.o,h2.out.kl,h2.out.k1,h2.out.ne,h2.out.zl⟩,⟨hk.out.os,hk.out.tape,hk.out.output,hk.out.size,hk.out.block⟩⟩
theorem group_many (l:List Tk) (a go cap n lo hi:Nat) (zs:List (Nat×Lv)) (ent:Int) (y:Nat×Lv) (c:Cl) (w:World) (h:TM l w a go cap n lo hi zs ent y) (ho:LvOk l y.2) (hll:(rowZ l y.2.p).length<=733007751850) (q:Nat) (hm:memZ l y.2 c.k c.nm=some q) (hcnt:¬ (c.cnt<0\/gmax (bpAt l q)<c.cnt)) (hmx:65536-ent<c.cnt) (he:0<=ent/\ent<=65536) (hco:i64ok c.cnt) :
  Calls Tryz.prog 70 #[.pointer (some ⟨a,0,none⟩),caV c] w fun r w'=>r = .returned (.int .i64 163)/\SM w' a go cap (n+1) (zs.set n (y.1,⟨y.2.p,y.2.left,y.2.begun,y.2.come+1⟩)) ent/\Kb [go] w w':=by
 have hB:Hid (Below w.heap.size w (w.alloc (caO c))):=⟨bel1 _ _⟩
 have cM:=member_any l a go cap n lo hi zs ent y c _ (h.below hB.out) ho hll
 have hsz:Hid ((w.alloc (caO c)).heap.size=w.heap.size+1):=⟨World.size_alloc _ _⟩
 have hgo:Hid (go<w.heap.size):=⟨h.s.lt.2⟩
 have hal:Hid (a<w.heap.size):=⟨h.s.lt.1⟩
 have hgl:=h.gl
 have haL:=h.al
 have hna:a≠w.heap.size:=by have:=hal.out;omega
 have C:Hid (∀ W,Kb [go] (w.alloc (caO c)) W->W.cell? ⟨w.heap.size,3,none⟩=some (.int .i64 c.cnt)/\Kb [go] w W):=⟨fun W hb=>by
  obtain⟨_,_,e3⟩:=cl_new w c
  exact⟨(cell_blk (hb.block w.heap.size (by have:=hsz.out;omega) (by have:=hgo.out;simp;omega))).trans e3,(Kb.of_below hB.out).trans hb⟩⟩
 obtain⟨c0,c1,c3⟩:=cl_new w c
 have c2:(w.alloc (caO c)).cell? ⟨w.heap.size,2,none⟩=some c.ws:=cell_at (heap_al _ _) 2
 have c4:(w.alloc (caO c)).cell? ⟨w.heap.size,4,none⟩=some (.string c.tx):=cell_at (heap_al _ _) 4
 rw[hm] at cM
 generalize hW:w.alloc (caO c)=W at cM hB C hsz c0 c1 c2 c3 c4
 simp only[caO] at hW
 clear h ho hll hm
 have cM:Hid (Calls Tryz.prog 105 #[.pointer (some ⟨a,0,none⟩),caV c] W fun r w'=>∃ g,r = .returned (.tuple #[.pointer (some ⟨g,0,none⟩),.int .i64 0])/\PtA l w' lo hi g q/\SM w' a go cap (n+1) (zs.set n (y.1,⟨y.2.p,y.2.left,y.2.begun,y.2.come+1⟩)) ent/\Kb [go] W w'):=⟨cM⟩
 generalize hzs:(zs.set n (y.1,⟨y.2.p,y.2.left,y.2.begun,y.2.come+1⟩))=zs1 at cM ⊢
 clear hzs
 have hc:¬ c.cnt<0:=by omega
 have b1:decide (c.cnt<0)=false:=decide_eq_false hc
 have hg:¬ gmax (bpAt l q)<c.cnt:=by omega
 have b2:decide (c.cnt > gmax (bpAt l q))=false:=decide_eq_false hg
 have b3:decide (gmax (bpAt l q)<c.cnt)=false:=decide_eq_false hg
 have hcv:IntKind.u64.wrap c.cnt=c.cnt:=by rw[IntKind.wrap_u64];obtain⟨h1,h2⟩:=hco;omega
 have hw1:IntKind.i64.wrap (65536-ent)=65536-ent:=by rw[IntKind.wrap_i64];omega
 clear hc hg
 have b4:decide (c.cnt > 65536-ent)=true:=decide_eq_true hmx
 have b5:decide (65536-ent<c.cnt)=true:=decide_eq_true hmx
 clear hcnt hmx
 go_enter Tryz.func70,Tryz.ntmps70
 go_wp2_with (go_at_call 105;refine cM.out.mono ?_;rintro _ w1 ⟨g',rfl,h1,h2,h3⟩;obtain⟨x3,hk⟩:=C.out w1 h3;obtain⟨mm,kk,pr,cr,hrow,-,-⟩:=h1.row;have p3:w1.cell? ⟨g',3,none⟩=some (.int .u64 (gmax (bpAt l q))):=cell_at hrow 3;have m1:=h2.c1;have mf:w1.frozen? ⟨a,1,none⟩=false:=(by simp[World.frozen?,h2.c]);replace h1:=Hid.mk h1;replace h2:=Hid.mk h2;replace h3:=Hid.mk h3;replace hk:=Hid.mk hk;clear hrow)
 go_quiet (fail)
 generalize nq=n1
 go_wp2_with fail
 go_quiet (fail)
 generalize nq=n2
 go_wp2_with fail
 go_ret
 exact⟨rfl,⟨h2.out.c,h2.out.o,h2.out.kl,h2.out.k1,h2.out.ne,h2.out.zl⟩,⟨hk.out.os,hk.out.tape,hk.out.output,hk.out.size,hk.out.block⟩⟩
theorem ent_opush:∀ ag w,(callFunc 53 ag).run Tryz.prog w = .ok (.enter 53 ag) w:=enters_of Tryz.func53 (by kernel_rfl) rfl
theorem SM.drewN {W:World} {a go cap k:Nat} {zs:List (Nat×Lv)} {ent:Int} (h:SM W a go cap k zs ent) (n:Nat):SM (W.drewN n) a go cap k zs ent:=⟨h.c,h.o,h.kl,h.k1,h.ne,h.zl⟩
theorem Kb.drewN {E:List Nat} {a b:World} (h:Kb E a b) (n:Nat):Kb E a (b.drewN n):=⟨h.os,h.tape,h.output,h.size,h.block⟩
theorem SM.ent {W:World} {a go cap k:Nat} {zs:List (Nat×Lv)} {ent:Int} (h:SM W a go cap k zs ent) (e:Int):SM (W.setCell ⟨a,1,none⟩ (.int .i64 e)) a go cap k zs e:=by
 have e':(W.setCell ⟨a,1,none⟩ (.int .i64 e)).heap=W.heap.modify a (fun o=>match o with
  | .cells cs t f=>.cells (cs.setIfInBounds 1 (.int .i64 e)) t f
  | o=>o):=rfl
 refine⟨?_,h.o.same (set_oth h.ne),h.kl,h.k1,h.ne,h.zl⟩
 rw[e',Array.getElem?_modify,if_pos rfl,h.c]
 rfl
theorem group_zero (l:List Tk) (a go cap n lo hi:Nat) (zs:List (Nat×Lv)) (ent:Int) (y:Nat×Lv) (c:Cl) (w:World) (h:TM l w a go cap n lo hi zs ent y) (ho:LvOk l y.2) (hll:(rowZ l y.2.p).length<=733007751850) (q:Nat) (hm:memZ l y.2 c.k c.nm=some q) (hcnt:¬ (c.cnt<0\/gmax (bpAt l q)<c.cnt)) (hmx:¬ 65536-ent<c.cnt) (he:0<=ent/\ent<=65536) (hco:i64ok c.cnt) (h0:¬ 0<c.cnt) :
  Calls Tryz.prog 70 #[.pointer (some ⟨a,0,none⟩),caV c] w fun r w'=>r = .returned (.int .i64 0)/\SM w' a go cap (n+1) (zs.set n (y.1,⟨y.2.p,y.2.left,y.2.begun,y.2.come+1⟩)) (ent+c.cnt)/\Kb [a,go] w w':=by
 have hB:Hid (Below w.heap.size w (w.alloc (caO c))):=⟨bel1 _ _⟩
 have cM:=member_any l a go cap n lo hi zs ent y c _ (h.below hB.out) ho hll
 have hsz:Hid ((w.alloc (caO c)).heap.size=w.heap.size+1):=⟨World.size_alloc _ _⟩
 have hgo:Hid (go<w.heap.size):=⟨h.s.lt.2⟩
 have hal:Hid (a<w.heap.size):=⟨h.s.lt.1⟩
 have hgl:=h.gl
 have haL:=h.al
 have hna:a≠w.heap.size:=by have:=hal.out;omega
 have C:Hid (∀ W,Kb [go] (w.alloc (caO c)) W->W.cell? ⟨w.heap.size,3,none⟩=some (.int .i64 c.cnt)/\Kb [go] w W):=⟨fun W hb=>by
  obtain⟨_,_,e3⟩:=cl_new w c
  exact⟨(cell_blk (hb.block w.heap.size (by have:=hsz.out;omega) (by have:=hgo.out;simp;omega))).trans e3,(Kb.of_below hB.out).trans hb⟩⟩
 obtain⟨c0,c1,c3⟩:=cl_new w c
 have c2:(w.alloc (caO c)).cell? ⟨w.heap.size,2,none⟩=some c.ws:=cell_at (heap_al _ _) 2
 have c4:(w.alloc (caO c)).cell? ⟨w.heap.size,4,none⟩=some (.string c.tx):=cell_at (heap_al _ _) 4
 rw[hm] at cM
 generalize hW:w.alloc (caO c)=W at cM hB C hsz c0 c1 c2 c3 c4
 simp only[caO] at hW
 clear h ho hll hm
 have cM:Hid (Calls Tryz.prog 105 #[.pointer (some ⟨a,0,none⟩),caV c] W fun r w'=>∃ g,r = .returned (.tuple #[.pointer (some ⟨g,0,none⟩),.int .i64 0])/\PtA l w' lo hi g q/\SM w' a go cap (n+1) (zs.set n (y.1,⟨y.2.p,y.2.left,y.2.begun,y.2.come+1⟩)) ent/\Kb [go] W w'):=⟨cM⟩
 generalize hzs:(zs.set n (y.1,⟨y.2.p,y.2.left,y.2.begun,y.2.come+1⟩))=zs1 at cM ⊢
 clear hzs
 have hc:¬ c.cnt<0:=by omega
 have b1:decide (c.cnt<0)=false:=decide_eq_false hc
 have hg:¬ gmax (bpAt l q)<c.cnt:=by omega
 have b2:decide (c.cnt > gmax (bpAt l q))=false:=decide_eq_false hg
 have b3:decide (gmax (bpAt l q)<c.cnt)=false:=decide_eq_false hg
 have hcv:IntKind.u64.wrap c.cnt=c.cnt:=by rw[IntKind.wrap_u64];obtain⟨h1,h2⟩:=hco;omega
 have hw1:IntKind.i64.wrap (65536-ent)=65536-ent:=by rw[IntKind.wrap_i64];omega
 clear hc hg
 have b4:decide (c.cnt > 65536-ent)=false:=decide_eq_false hmx
 have b5:decide (65536-ent<c.cnt)=false:=decide_eq_false hmx
 have b6:decide (c.cnt > 0)=false:=decide_eq_false h0
 have b7:decide (0<c.cnt)=false:=decide_eq_false h0
 have hw2:IntKind.i64.wrap (ent+c.cnt)=ent+c.cnt:=by rw[IntKind.wrap_i64];omega
 clear hcnt hmx h0
 go_enter Tryz.func70,Tryz.ntmps70
 go_wp2_with (go_at_call 105;refine cM.out.mono ?_;rintro _ w1 ⟨g',rfl,h1,h2,h3⟩;obtain⟨x3,hk⟩:=C.out w1 h3;obtain⟨mm,kk,pr,cr,hrow,-,-⟩:=h1.row;have p3:w1.cell? ⟨g',3,none⟩=some (.int .u64 (gmax (bpAt l q))):=cell_at hrow 3;have m1:=h2.c1;have mf:w1.frozen? ⟨a,1,none⟩=false:=(by simp[World.frozen?,h2.c]);replace h1:=Hid.mk h1;replace h2:=Hid.mk h2;replace h3:=Hid.mk h3;replace hk:=Hid.mk hk;clear hrow)
 go_quiet (fail)
 generalize nq=n1
 go_wp2_with fail
 go_quiet (fail)
 generalize nq=n2
 go_wp2_with fail
 go_region
 go_wp2_with fail
 go_ret
 exact⟨rfl,((h2.out.drewN (n1+n2)).ent _).drew,kbdr (((hk.out.mono (by simp)).drewN (n1+n2)).set (by simp) _)⟩
theorem group_push (l:List Tk) (a go cap n lo hi:Nat) (zs:List (Nat×Lv)) (ent:Int) (y:Nat×Lv) (c:Cl) (w:World) (h:TM l w a go cap n lo hi zs ent y) (ho:LvOk l y.2) (hll:(rowZ l y.2.p).length<=733007751850) (q:Nat) (hm:memZ l y.2 c.k c.nm=some q) (hcnt:¬ (c.cnt<0\/gmax (bpAt l q)<c.cnt)) (hmx:¬ 65536-ent<c.cnt) (he:0<=ent/\ent<=65536) (hco:i64ok c.cnt) (h0:0<c.cnt) (hn1:n+2<=1000000) :
  Calls Tryz.prog 70 #[.pointer (some ⟨a,0,none⟩),caV c] w fun r w'=>r = .returned (.int .i64 0)/\∃ g' go' cap',SM w' a go' cap' (n+2) ((zs.set n (y.1,⟨y.2.p,y.2.left,y.2.begun,y.2.come+1⟩)).take (n+1)++[(g',⟨q,c.cnt,false,0⟩)]) (ent+c.cnt)/\PtA l w' lo hi g' q/\(go'=go\/w.heap.size<=go')/\Kb [a,go] w w':=by
 have hB:Hid (Below w.heap.size w (w.alloc (caO c))):=⟨bel1 _ _⟩
 have cM:=member_any l a go cap n lo hi zs ent y c _ (h.below hB.out) ho hll
 have hsz:Hid ((w.alloc (caO c)).heap.size=w.heap.size+1):=⟨World.size_alloc _ _⟩
 have hgo:Hid (go<w.heap.size):=⟨h.s.lt.2⟩
 have hal:Hid (a<w.heap.size):=⟨h.s.lt.1⟩
 have hgl:=h.gl
 have haL:=h.al
 have hna:a≠w.heap.size:=by have:=hal.out;omega
 have C:Hid (∀ W,Kb [go] (w.alloc (caO c)) W->W.cell? ⟨w.heap.size,3,none⟩=some (.int .i64 c.cnt)/\Kb [go] w W):=⟨fun W hb=>by
  obtain⟨_,_,e3⟩:=cl_new w c
  exact⟨(cell_blk (hb.block w.heap.size (by have:=hsz.out;omega) (by have:=hgo.out;simp;omega))).trans e3,(Kb.of_below hB.out).trans hb⟩⟩
 obtain⟨c0,c1,c3⟩:=cl_new w c
 have c2:(w.alloc (caO c)).cell? ⟨w.heap.size,2,none⟩=some c.ws:=cell_at (heap_al _ _) 2
 have c4:(w.alloc (caO c)).cell? ⟨w.heap.size,4,none⟩=some (.string c.tx):=cell_at (heap_al _ _) 4
 rw[hm] at cM
 generalize hW:w.alloc (caO c)=W at cM hB C hsz c0 c1 c2 c3 c4
 simp only[caO] at hW
 clear h ho hll hm
 have cM:Hid (Calls Tryz.prog 105 #[.pointer (some ⟨a,0,none⟩),caV c] W fun r w'=>∃ g,r = .returned (.tuple #[.pointer (some ⟨g,0,none⟩),.int .i64 0])/\PtA l w' lo hi g q/\SM w' a go cap (n+1) (zs.set n (y.1,⟨y.2.p,y.2.left,y.2.begun,y.2.come+1⟩)) ent/\Kb [go] W w'):=⟨cM⟩
 generalize hzs:(zs.set n (y.1,⟨y.2.p,y.2.left,y.2.begun,y.2.come+1⟩))=zs1 at cM ⊢
 clear hzs
 have hc:¬ c.cnt<0:=by omega
 have b1:decide (c.cnt<0)=false:=decide_eq_false hc
 have hg:¬ gmax (bpAt l q)<c.cnt:=by omega
 have b2:decide (c.cnt > gmax (bpAt l q))=false:=decide_eq_false hg
 have b3:decide (gmax (bpAt l q)<c.cnt)=false:=decide_eq_false hg
 have hcv:IntKind.u64.wrap c.cnt=c.cnt:=by rw[IntKind.wrap_u64];obtain⟨h1,h2⟩:=hco;omega
 have hw1:IntKind.i64.wrap (65536-ent)=65536-ent:=by rw[IntKind.wrap_i64];omega
 clear hc hg
 have b4:decide (c.cnt > 65536-ent)=false:=decide_eq_false hmx
 have b5:decide (65536-ent<c.cnt)=false:=decide_eq_false hmx
 have b6:decide (c.cnt > 0)=true:=decide_eq_true h0
 have b7:decide (0<c.cnt)=true:=decide_eq_true h0
 have hw2:IntKind.i64.wrap (ent+c.cnt)=ent+c.cnt:=by rw[IntKind.wrap_i64];omega
 clear hcnt hmx h0
 go_enter Tryz.func70,Tryz.ntmps70
 go_wp2_with (go_at_call 105;refine cM.out.mono ?_;rintro _ w1 ⟨g',rfl,h1,h2,h3⟩;obtain⟨x3,hk⟩:=C.out w1 h3;obtain⟨mm,kk,pr,cr,hrow,-,-⟩:=h1.row;have p3:w1.cell? ⟨g',3,none⟩=some (.int .u64 (gmax (bpAt l q))):=cell_at hrow 3;have m1:=h2.c1;have mf:w1.frozen? ⟨a,1,none⟩=false:=(by simp[World.frozen?,h2.c]);replace h1:=Hid.mk h1;replace h2:=Hid.mk h2;replace h3:=Hid.mk h3;replace hk:=Hid.mk hk;clear hrow)
 go_quiet (fail)
 generalize nq=n1
 go_wp2_with fail
 go_quiet (fail)
 generalize nq=n2
 go_wp2_with fail
 go_region
 go_wp2_with fail
 have hS:SM ((w1.drewN (n1+n2+1)).setCell ⟨a,1,none⟩ (.int .i64 (ent+c.cnt))) a go cap (n+1) zs1 (ent+c.cnt):=(h2.out.drewN (n1+n2+1)).ent _
 have hK:Kb [a,go] w ((w1.drewN (n1+n2+1)).setCell ⟨a,1,none⟩ (.int .i64 (ent+c.cnt))):=((hk.out.mono (by simp)).drewN (n1+n2+1)).set (by simp) _
 have hP:PtA l ((w1.drewN (n1+n2+1)).setCell ⟨a,1,none⟩ (.int .i64 (ent+c.cnt))) lo hi g' q:=h1.out.same fun j h5 h6=>(set_oth (fun e=>by omega)).trans rfl
 have y3:((w1.drewN (n1+n2+1)).setCell ⟨a,1,none⟩ (.int .i64 (ent+c.cnt))).cell? ⟨w.heap.size,3,none⟩=some (.int .i64 c.cnt):=(World.cell?_setCell_other _ _ _ _ (fun e=>hna (congrArg Addr.block e))).trans x3
 generalize (w1.drewN (n1+n2+1)).setCell ⟨a,1,none⟩ (.int .i64 (ent+c.cnt))=W2 at hS hK hP y3 ⊢
 have own:=hS.o.own (H:=hi) hS.kl hgl
 have htl:(zs1.take (n+1)).length=n+1:=by rw[List.length_take];have:=hS.kl;omega
 have cPu:=fun W (hb:Below W2.heap.size W2 W)=>opush_any a hi (ent+c.cnt) (.slice (some ⟨go,0,none⟩) (n+1) cap) (zs1.take (n+1)) (g',⟨q,c.cnt,false,0⟩) W ((hb.block a hS.lt.1).trans hS.c) (own_alloc2 own hb) (by rw[htl];omega) (by have:=hS.lt.2;have:=hb.size;omega) (by simp[Value.ownBlock];exact fun e=>hS.ne e.symm)
 have hS':Hid _:=⟨hS⟩
 have hK':Hid _:=⟨hK⟩
 have hP':Hid _:=⟨hP⟩
 have cPu':Hid _:=⟨cPu⟩
 clear hS hK hP own cPu
 have hgn:w.heap.size≠go:=by have:=hgo.out;omega
 have hwn:w.heap.size<W2.heap.size:=by
  rcases Nat.lt_or_ge w.heap.size W2.heap.size with h|h
  ·exact h
  ·simp[World.cell?,Array.getElem?_eq_none h] at y3
 obtain⟨p,p0,hN,z3,pa⟩:∃ p:World->Prop,p W2.drew/\Nonempty (CW p)/\(∀ θ:CW p,θ.w.cell? ⟨w.heap.size,3,none⟩=some (.int .i64 c.cnt))/\(∀ W',Kb [a,go] W2 W'->p W') :=
  ⟨fun W=>W.cell? ⟨w.heap.size,3,none⟩=some (.int .i64 c.cnt),y3,⟨⟨_,y3⟩⟩,fun θ=>θ.h,fun W' hb=>(cell_blk (hb.block w.heap.size hwn (by simp;exact⟨fun e=>hna e.symm,hgn⟩))).trans y3⟩
 refine wp_region_lx p (by kernel_rfl) (by kernel_rfl) (fun _ _ d _ _ h=>by cases d<;>exact h) p0 ?_
 repeat (first
  | (refine lx_one rfl ?_;(first|go_big_quiet_skip|(go_big_quiet_want;go_big_quiet_op;go_big_quiet_on));refine wpQuiet_nil ?_)
  | (refine lx_skip (by rfl) ?_;simp only[pts]))
 refine lx_call2 ent_opush (cPu'.out W2.drew (drw (Below.refl _ _))) rfl rfl (by rfl) ?_
 rintro w5 ⟨go',cap',q1,q2,q3,q4⟩
 have hk5:Kb [a,go] W2 w5:=⟨q4.os,q4.tape,q4.output,q4.size,fun k hk he=>q4.block k hk (by simpa[Value.ownBlock] using he)⟩
 refine⟨⟨⟨w5,pa w5 hk5⟩,rfl⟩,lx_done ?_⟩
 have hS5:Hid _:=⟨q1⟩
 have hK5:Hid (Kb [a,go] w w5):=⟨hK'.out.trans hk5⟩
 have hP5:Hid (PtA l w5 lo hi g' q):=⟨hP'.out.same fun j h5 h6=>hk5.block j (by have:=hS'.out.lt.2;omega) (by simp;omega)⟩
 have hG5:Hid (go'=go\/w.heap.size<=go'):=⟨by
  rcases q3 with e|e
  ·exact .inl (by simpa[Value.ownBlock] using e)
  ·exact .inr (by have:=hwn;have e:W2.heap.size<=go':=e;omega)⟩
 clear q1 q2 q3 q4 hk5 pa z3 hN p0 cPu' hS' hK' hP' y3
 simp only[pts]
 go_wp2_with fail
 go_ret
 rw[htl] at hS5
 exact⟨rfl,g',go',cap',hS5.out,hP5.out,hG5.out,hK5.out⟩
theorem fields_iff {l:List Tk} {p:Nat} {s:ByteArray}:(∃ i∈fldZ l p,nmAt l i=s)↔((fldZ l p).any fun i=>decide (nmAt l i=s))=true:=by
 rw[List.any_eq_true]
 constructor
 ·rintro⟨i,h1,h2⟩;exact⟨i,h1,by simpa using h2⟩
 ·rintro⟨i,h1,h2⟩;exact⟨i,h1,by simpa using h2⟩
theorem field_any (l:List Tk) (a go cap n lo hi:Nat) (zs:List (Nat×Lv)) (ent:Int) (y:Nat×Lv) (c:Cl) (w:World) (h:TM l w a go cap n lo hi zs ent y) (hnm:c.nm.size<=maxLen) :
  Calls Tryz.prog 69 #[.pointer (some ⟨a,0,none⟩),caV c] w fun r w'=>r = .returned (.int .i64 (if fieldB l y.2 c.nm=true then 0 else 140))/\Below w.heap.size w w':=by
 generalize hrv:(if fieldB l y.2 c.nm=true then (0:Int) else 140)=rv
 replace hrv:=Hid.mk hrv
 have hB:Hid (Below w.heap.size w (w.alloc (caO c))):=⟨bel1 _ _⟩
 have h1:=h.below hB.out
 have hn:=h.hn
 have cT:=otop_any a go n cap _ h1.s.c0 (by omega)
 obtain⟨m,k,pr,cr,e1,e2,-⟩:=h1.p.row
 have hgW:y.1<(w.alloc (caO c)).heap.size:=(Array.getElem?_eq_some_iff.1 e1).1
 obtain⟨D,hD,hD2⟩:=e2
 have hmW:m<(w.alloc (caO c)).heap.size:=hD.lt
 have hkey:=keyS c.nm hnm
 have hsz:Hid ((w.alloc (caO c)).heap.size=w.heap.size+1):=⟨World.size_alloc _ _⟩
 have K:Hid (∀ W,Below (w.alloc (caO c)).heap.size (w.alloc (caO c)) W->TM l W a go cap n lo hi zs ent y/\Below w.heap.size w W/\W.cell? ⟨y.1,4,none⟩=some (.map (some m))/\W.ownsMap Tryz.prog 9 unitElem m k D/\W.cell? ⟨w.heap.size,1,none⟩=some (.string c.nm)):=⟨fun W hb=>⟨h1.below hb,hB.out.trans (hb.mono hB.out.size),(hb.cell (p:=⟨y.1,4,none⟩) hgW).trans (cell_at e1 4),by
   obtain⟨es,ck,e,r⟩:=hD
   exact⟨es,ck,(hb.block m hmW).trans e,r⟩,(hb.cell (p:=⟨w.heap.size,1,none⟩) (by show w.heap.size<_;have:=hsz.out;omega)).trans (cl_new w c).2.1⟩⟩
 have hF:Hid (Maps.has D (.string c.nm.data.toList)=((fldZ l y.2.p).any fun i=>decide (nmAt l i=c.nm))):=⟨by
  have:=(hD2 c.nm hnm).trans fields_iff
  cases h1:Maps.has D (.string c.nm.data.toList)<;>cases h2:((fldZ l y.2.p).any fun i=>decide (nmAt l i=c.nm))<;>simp_all⟩
 generalize hW:w.alloc (caO c)=W at cT K hB hsz
 simp only[caO] at hW
 clear h h1 hD hD2 e1 hgW hmW
 obtain⟨g,xp,xl,xb,xc⟩:=y
 go_enter Tryz.func69,Tryz.ntmps69
 go_wp2_with (go_at_call 47;refine cT.mono ?_;rintro _ w1 ⟨rfl,hb1⟩;obtain⟨hT,hBw,u4,uD,x1⟩:=K.out w1 hb1;obtain⟨t0,t1,t2,t3⟩:=hT.cs;have hls:Hid (go<w1.heap.size):=⟨hT.s.lt.2⟩;clear hT;replace hb1:=Hid.mk hb1;replace hBw:=Hid.mk hBw)
 obtain⟨vv,ps,hlk,hvv⟩:=World.ownsMap.look_ok (w:=w1.drew) uD lawS Tryz.underlying170 (zeroU _) unitElem_mk hkey
 obtain⟨rfl,_⟩:=unitElem_inv hvv
 have hA:Below w1.heap.size w1 (w1.alloc (.cells #[] 175)):=nbel _ _
 obtain⟨hT',-,u4',uD',x1'⟩:=K.out _ (hb1.out.trans (hA.mono hb1.out.size))
 obtain⟨t0',t1',t2',t3'⟩:=hT'.cs
 obtain⟨vv',ps',hlk',hvv'⟩:=World.ownsMap.look_ok (w:=(w1.alloc (.cells #[] 175)).drew) uD' lawS Tryz.underlying170 (zeroU _) unitElem_mk hkey
 obtain⟨rfl,_⟩:=unitElem_inv hvv'
 clear hT'
 replace hA:=Hid.mk hA
 rw[hF.out] at hlk hlk'
 have hfb:Hid (fieldB l ⟨xp,xl,xb,xc⟩ c.nm=(xb&&decide (xc=0)&&((fldZ l xp).any fun i=>decide (nmAt l i=c.nm)))):=⟨rfl⟩
 generalize ((fldZ l xp).any fun i=>decide (nmAt l i=c.nm))=bf at hlk hlk' hfb
 clear uD hvv hF uD' hvv'
 simp only at t2' t3' t2 t3
 have hR:Hid (Below w.heap.size w (w1.alloc (.cells #[] 175)).drew):=⟨hBw.out.trans (drw (hA.out.mono hBw.out.size))⟩
 have hr:∀ b:Bool,(xb&&decide (xc=0)&&bf)=b->Hid (rv=if b=true then 0 else 140):=fun b e=>⟨by rw[<- hrv.out];show (if fieldB l ⟨xp,xl,xb,xc⟩ c.nm=true then (0:Int) else 140)=_;rw[hfb.out,e]⟩
 cases bf with
 | false =>
  have hr':=hr false (by simp)
  clear hr hfb
  go_region
  all_goals
   go_wp2_with fail
   go_ret
   exact⟨by rw[hr'.out];rfl,hR.out⟩
 | true =>
  cases xb with
  | false =>
   have hr':=hr false (by simp)
   clear hr hfb
   go_region
   all_goals
    go_wp2_with fail
    go_ret
    exact⟨by rw[hr'.out];rfl,hR.out⟩
  | true =>
   by_cases hx:xc=0
   ·have b1:decide ((xc:Int) > 0)=false:=by simp[hx]
    have b2:decide (0<(xc:Int))=false:=by simp[hx]
    have b3:decide (0<xc)=false:=by simp[hx]
    have hr':=hr true (by simp[hx])
    clear hr hfb hx
    go_region
    all_goals
     go_wp2_with fail
     go_ret
     exact⟨by rw[hr'.out];rfl,hR.out⟩
   ·have b1:decide ((xc:Int) > 0)=true:=by simp;omega
    have b2:decide (0<(xc:Int))=true:=by simp;omega
    have b3:decide (0<xc)=true:=by simp;omega
    have hr':=hr false (by simp[hx])
    clear hr hfb hx
    go_region
    all_goals
     go_wp2_with fail
     go_ret
     exact⟨by rw[hr'.out];rfl,hR.out⟩
abbrev tkV4:Value:=.agg #[.func (.func 69) #[] #[],.func (.func 70) #[] #[],.func (.func 71) #[] #[],.func (.func 72) #[] #[]]
theorem res_cell {P:Program} {fn:Func} {p:Tmp} {ty:TypeId} (h:fn.results=#[.cell p ty]) (tmps:Array Value) (w:World) (g:Nat) (v:Value) (hp:tmps.getD p undef = .pointer (some ⟨g,0,none⟩)) (hl:(loadVar ty ⟨g,0,none⟩).run P w = .ok v w):(results fn tmps).run P w = .ok v w:=by
 have hp':tmps[p]?.getD undef = .pointer (some ⟨g,0,none⟩):=by simpa using hp
 simp[results,h,hp',asAddr,hl]
theorem takers_any (w:World):Calls Tryz.prog 45 #[] w fun r w'=>r = .returned tkV4/\Below w.heap.size w w':=by
 have hB:Hid (Below w.heap.size w (w.alloc (.cells #[.func (.func 69) #[] #[],.func (.func 70) #[] #[],.func (.func 71) #[] #[],.func (.func 72) #[] #[]] 117))):=⟨bel1 _ _⟩
 go_enter Tryz.func45,Tryz.ntmps45
 go_wp2_with fail
 have hh:=heap_al w (.cells #[.func (.func 69) #[] #[],.func (.func 70) #[] #[],.func (.func 71) #[] #[],.func (.func 72) #[] #[]] 117)
 have hu:∃ d,Tryz.prog.underlying 117=some d/\d.isRow=true:=⟨_,Tryz.underlying117,rfl⟩
 obtain⟨d,hu,hd⟩:=hu
 have hres:=run_loadVar_mid (P:=Tryz.prog) _ w.heap.size 0 117 [.func (.func 69) #[] #[],.func (.func 70) #[] #[],.func (.func 71) #[] #[],.func (.func 72) #[] #[]] d (fun j v hv=>by rw[Nat.zero_add,cell_at hh];simpa using hv) hu hd (by kernel_rfl)
 exact bodyPost_ret (res_cell rfl _ _ w.heap.size _ rfl hres) rfl ⟨rfl,hB.out⟩
theorem SM.cs {w:World} {a go cap k n:Nat} {zs:List (Nat×Lv)} {ent:Int} {y:Nat×Lv} (h:SM w a go cap k zs ent) (hy:zs[n]?=some y):w.cell? ⟨go,n*4,none⟩=some (.pointer (some ⟨y.1,0,none⟩))/\w.cell? ⟨go,n*4+1,none⟩=some (.int .i64 y.2.left)/\w.cell? ⟨go,n*4+2,none⟩=some (.bool y.2.begun)/\w.cell? ⟨go,n*4+3,none⟩=some (.int .i64 (y.2.come:Int)) :=
 ⟨h.o.at hy 0 (by omega),h.o.at hy 1 (by omega),h.o.at hy 2 (by omega),h.o.at hy 3 (by omega)⟩
theorem SM.fz {w:World} {a go cap k:Nat} {zs:List (Nat×Lv)} {ent:Int} (h:SM w a go cap k zs ent) (o:Nat):w.frozen? ⟨go,o,none⟩=false:=by
 obtain⟨cur,h1,_⟩:=h.o
 simp[World.frozen?,h1]
theorem blk_of_cell {w:World} {g o:Nat} {v:Value} (h:w.cell? ⟨g,o,none⟩=some v):g<w.heap.size:=by
 rcases Nat.lt_or_ge g w.heap.size with h1|h1
 ·exact h1
 ·simp[World.cell?,Array.getElem?_eq_none h1] at h
theorem ent_otop:∀ ag w,(callFunc 47 ag).run Tryz.prog w = .ok (.enter 47 ag) w:=enters_of Tryz.func47 (by kernel_rfl) rfl
theorem stepD_ok (E T M O:Nat) (u:FrameMode) (w:World) (h:w.cell? ⟨E,0,none⟩=some (.int .i64 0)) :
  CallsD Tryz.prog 48 #[.pointer (some ⟨E,0,none⟩),.pointer (some ⟨T,0,none⟩),.pointer (some ⟨M,0,none⟩),.pointer (some ⟨O,0,none⟩)] u w fun e u' w'=>u'=u/\(e = .returned (.tuple #[])/\w'=w):=by
 go_enter_d Tryz.func48,Tryz.ntmps48
 go_wp2_with fail
 go_end0
 exact⟨rfl,rfl⟩
theorem stepD_err (E T M O a go cap n K:Nat) (zs:List (Nat×Lv)) (ent er:Int) (y y1:Nat×Lv) (u:FrameMode) (w:World) (h:w.cell? ⟨E,0,none⟩=some (.int .i64 er)) (her:er≠0) (hS:SM w a go cap (n+1) zs ent) (hy:zs[n]?=some y1)
  (hM:w.cell? ⟨M,0,none⟩=some (.pointer (some ⟨a,0,none⟩))) (hT:w.heap[T]?=some (lvO y.1 y.2)) (hO:w.cell? ⟨O,0,none⟩=some (.slice (some ⟨go,0,none⟩) K cap)) (hMg:M≠go) (hOg:O≠go) :
  CallsD Tryz.prog 48 #[.pointer (some ⟨E,0,none⟩),.pointer (some ⟨T,0,none⟩),.pointer (some ⟨M,0,none⟩),.pointer (some ⟨O,0,none⟩)] u w fun e u' w'=>u'=u/\(e = .returned (.tuple #[])/\w'.heap[a]?=some (.cells #[.slice (some ⟨go,0,none⟩) K cap,.int .i64 ent] 103)/\Op4 w' go cap (zs.set n y)/\Kb [a,go] w w'):=by
 have b1:(er==0)=false:=beq_eq_false_iff_ne.2 her
 have b2:(er != 0)=true:=by rw[bne,b1];rfl
 have hn:n<1000000:=by have:=hS.kl;have:=hS.zl;omega
 obtain⟨g,xp,xl,xb,xc⟩:=y
 have t0:w.cell? ⟨T,0,none⟩=some (.pointer (some ⟨g,0,none⟩)):=cell_at hT 0
 have t1:w.cell? ⟨T,1,none⟩=some (.int .i64 xl):=cell_at hT 1
 have t2:w.cell? ⟨T,2,none⟩=some (.bool xb):=cell_at hT 2
 have t3:w.cell? ⟨T,3,none⟩=some (.int .i64 (xc:Int)):=cell_at hT 3
 clear her
 have cT:=fun W (hb:Below w.heap.size w W)=>(otop_any a go n cap W (hS.below hb).c0 (by omega)).mono (R':=fun e w'=>∃ v,e = .returned v/\(v = .pointer (some ⟨go,n*4,none⟩)/\Below W.heap.size W w')) fun e w' hh=>⟨_,hh.1,rfl,hh.2⟩
 have hTl:T<w.heap.size:=(Array.getElem?_eq_some_iff.1 hT).1
 have KK:Hid (∀ W,Below w.heap.size w W->SM W a go cap (n+1) zs ent/\W.heap[T]?=some (lvO g ⟨xp,xl,xb,xc⟩)/\W.cell? ⟨M,0,none⟩=some (.pointer (some ⟨a,0,none⟩))/\W.cell? ⟨O,0,none⟩=some (.slice (some ⟨go,0,none⟩) K cap)/\Below w.heap.size w W):=⟨fun W hb=>⟨hS.below hb,(hb.block T hTl).trans hT,(hb.cell (p:=⟨M,0,none⟩) (blk_of_cell hM)).trans hM,(hb.cell (p:=⟨O,0,none⟩) (blk_of_cell hO)).trans hO,hb⟩⟩
 go_enter_d Tryz.func48,Tryz.ntmps48
 go_wp2_with fail
 go_region_law ((refine xstep1 rfl _ _ #[100] (by rfl) ent_otop (.pointer (some ⟨a,0,none⟩)) (by rfl) _ (cT _ (by first|exact Below.refl _ _|exact drw (Below.refl _ _))) ?_;rintro _ w1 ⟨rfl,hb1⟩;obtain⟨hS1,hT1,hM1,hO1,hB1⟩:=KK.out w1 (by first|exact hb1|exact(drw (Below.refl _ _)).trans hb1);have r0:w1.cell? ⟨T,0,none⟩=some (.pointer (some ⟨g,0,none⟩)):=cell_at hT1 0;have r1:w1.cell? ⟨T,1,none⟩=some (.int .i64 xl):=cell_at hT1 1;have r2:w1.cell? ⟨T,2,none⟩=some (.bool xb):=cell_at hT1 2;have r3:w1.cell? ⟨T,3,none⟩=some (.int .i64 (xc:Int)):=cell_at hT1 3;obtain⟨s0,s1,s2,s3⟩:=hS1.cs hy;have z0:=hS1.fz (n*4);have z1:=hS1.fz (n*4+1);have z2:=hS1.fz (n*4+2);have z3:=hS1.fz (n*4+3)))
 all_goals
  obtain⟨q1,q2⟩:=hS1.put hy (g,⟨xp,xl,xb,xc⟩)
  simp only at q1 q2
  have m1:=(cell_blk (q2.block M (blk_of_cell hM1) (by simpa using hMg))).trans hM1
  have o1:=(cell_blk (q2.block O (blk_of_cell hO1) (by simpa using hOg))).trans hO1
  generalize (((w1.setCell ⟨go,n*4,none⟩ (.pointer (some ⟨g,0,none⟩))).setCell ⟨go,n*4+1,none⟩ (.int .i64 xl)).setCell ⟨go,n*4+2,none⟩ (.bool xb)).setCell ⟨go,n*4+3,none⟩ (.int .i64 (xc:Int))=W2 at q1 q2 m1 o1 ⊢
  have a0:=q1.c0
  have af:W2.frozen? ⟨a,0,none⟩=false:=by simp[World.frozen?,q1.c]
  have e:(W2.setCell ⟨a,0,none⟩ (.slice (some ⟨go,0,none⟩) K cap)).heap[a]?=some (.cells #[.slice (some ⟨go,0,none⟩) K cap,.int .i64 ent] 103):=by
   have e':(W2.setCell ⟨a,0,none⟩ (.slice (some ⟨go,0,none⟩) K cap)).heap=W2.heap.modify a (fun o=>match o with
    | .cells cs t f=>.cells (cs.setIfInBounds 0 (.slice (some ⟨go,0,none⟩) K cap)) t f
    | o=>o):=rfl
   rw[e',Array.getElem?_modify,if_pos rfl,q1.c]
   rfl
  have HX:Hid ((W2.setCell ⟨a,0,none⟩ (.slice (some ⟨go,0,none⟩) K cap)).heap[a]?=some (.cells #[.slice (some ⟨go,0,none⟩) K cap,.int .i64 ent] 103)/\Op4 (W2.setCell ⟨a,0,none⟩ (.slice (some ⟨go,0,none⟩) K cap)) go cap (zs.set n (g,⟨xp,xl,xb,xc⟩))/\Kb [a,go] w (W2.setCell ⟨a,0,none⟩ (.slice (some ⟨go,0,none⟩) K cap))) :=
   ⟨e,q1.o.same (set_oth q1.ne),(((Kb.of_below hB1).trans (q2.mono (by simp))).set (by simp) _)⟩
  clear e q1 q2 s0 s1 s2 s3 r0 r1 r2 r3 t0 t1 t2 t3 z0 z1 z2 z3 hS1 hT1 hM1 hO1 hS hT hM hO KK cT
  go_wp2_with fail
  go_end0
  exact⟨rfl,HX.out⟩
end Go.Proofs.YtjlbcdnkglaheaaGreatDoor

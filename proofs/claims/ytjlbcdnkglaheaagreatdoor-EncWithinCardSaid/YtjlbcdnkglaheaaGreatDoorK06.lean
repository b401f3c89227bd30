import Derived.Test.YtjlbcdnkglaheaaGreatDoorK05
namespace Go.Proofs.YtjlbcdnkglaheaaGreatDoor
set_option maxRecDepth 1000000
set_option maxHeartbeats 16000000
open Go.ChangeShapes Go.WideShapes Go.ChangeAt Go.RowKit Go.Shelf Go.Maps
theorem kbdr {E:List Nat} {a w:World} (h:Kb E a w):Kb E a w.drew:=⟨h.os,h.tape,h.output,h.size,h.block⟩
theorem otop_any (B go n cap:Nat) (w:World) (hc:w.cell? ⟨B,0,none⟩=some (.slice (some ⟨go,0,none⟩) (n+1) cap)) (hn:n<1000000000000) :
  Calls Tryz.prog 47 #[.pointer (some ⟨B,0,none⟩)] w fun r w'=>r = .returned (.pointer (some ⟨go,n*4,none⟩))/\Below w.heap.size w w':=by
 have e1:((n+1:Nat):Int)-1=(n:Int):=by omega
 have e2:(n:Int)<((n+1:Nat):Int):=by omega
 go_enter Tryz.func47,Tryz.ntmps47
 go_wp2_with fail
 go_quiet (fail)
 go_wp2_with fail
 go_ret
 exact⟨rfl,tdr (Below.refl _ _)⟩
theorem opop_any (B go n cap:Nat) (ent:Int) (w:World) (hc:w.heap[B]?=some (.cells #[.slice (some ⟨go,0,none⟩) (n+1) cap,.int .i64 ent] 103)) (hn:n<1000000000000) (hcap:n+1<=cap) :
  Calls Tryz.prog 73 #[.pointer (some ⟨B,0,none⟩)] w fun r w'=>r = .returned (.tuple #[])/\w'.heap[B]?=some (.cells #[.slice (some ⟨go,0,none⟩) n cap,.int .i64 ent] 103)/\Kb [B] w w':=by
 have b0:w.cell? ⟨B,0,none⟩=some (.slice (some ⟨go,0,none⟩) (n+1) cap):=cell_at hc 0
 have fz:w.frozen? ⟨B,0,none⟩=false:=by simp[World.frozen?,hc]
 have e1:((n+1:Nat):Int)-1=(n:Int):=by omega
 have e3:(n:Int)<=cap:=by omega
 have hset:Hid (∀ W:World,W.heap[B]?=w.heap[B]?->(W.setCell ⟨B,0,none⟩ (.slice (some ⟨go,0,none⟩) n cap)).heap[B]?=some (.cells #[.slice (some ⟨go,0,none⟩) n cap,.int .i64 ent] 103)):=⟨fun W hW=>by
  have e:(W.setCell ⟨B,0,none⟩ (.slice (some ⟨go,0,none⟩) n cap)).heap=W.heap.modify B (fun o=>match o with
   | .cells cs t f=>.cells (cs.setIfInBounds 0 (.slice (some ⟨go,0,none⟩) n cap)) t f
   | o=>o):=rfl
  rw[e,Array.getElem?_modify,if_pos rfl,hW,hc]
  rfl⟩
 have hk:Hid (Kb [B] w (w.setCell ⟨B,0,none⟩ (.slice (some ⟨go,0,none⟩) n cap)).drew):=⟨kbdr ((Kb.of_below (Below.refl _ _)).set (List.mem_singleton.2 rfl) _)⟩
 clear hc
 go_enter Tryz.func73,Tryz.ntmps73
 go_region
 go_wp2_with fail
 exact bodyPost_end (v:=.tuple #[]) (results_none (by rfl) _ _ _) rfl ⟨rfl,hset.out w rfl,hk.out⟩
structure RwC (W:World) (g n:Nat):Prop where
 c:∃ pr cr,W.cell? ⟨g,5,none⟩=some (.slice pr n cr)
 lt:g<W.heap.size
theorem RwC.below {W W':World} {g n:Nat} (h:RwC W g n) (hb:Below W.heap.size W W'):RwC W' g n:=by
 obtain⟨pr,cr,e⟩:=h.c
 exact⟨⟨pr,cr,(hb.cell (p:=⟨g,5,none⟩) h.lt).trans e⟩,Nat.lt_of_lt_of_le h.lt hb.size⟩
theorem PtA.rw {l:List Tk} {W:World} {lo hi g p:Nat} (h:PtA l W lo hi g p):RwC W g (rowZ l p).length:=by
 obtain⟨m,k,pr,cr,h1,_⟩:=h.row
 exact⟨⟨pr,cr,cell_at h1 5⟩,(Array.getElem?_eq_some_iff.1 h1).1⟩
theorem lvc_new (w:World) (g:Nat) (x:Lv):(w.alloc (lvO g x)).cell? ⟨w.heap.size,0,none⟩=some (.pointer (some ⟨g,0,none⟩))/\(w.alloc (lvO g x)).cell? ⟨w.heap.size,1,none⟩=some (.int .i64 x.left)/\(w.alloc (lvO g x)).cell? ⟨w.heap.size,2,none⟩=some (.bool x.begun)/\(w.alloc (lvO g x)).cell? ⟨w.heap.size,3,none⟩=some (.int .i64 (x.come:Int)) :=
 ⟨cell_at (heap_al _ _) 0,cell_at (heap_al _ _) 1,cell_at (heap_al _ _) 2,cell_at (heap_al _ _) 3⟩
theorem isWhole_any (l:List Tk) (g:Nat) (x:Lv) (w:World) (hr:RwC w g (rowZ l x.p).length) :
  Calls Tryz.prog 68 #[lvV g x] w fun r w'=>r = .returned (.bool (wholeB l x))/\Below w.heap.size w w':=by
 obtain⟨xp,xl,xb,xc⟩:=x
 have hb:=bel1 w (lvO g ⟨xp,xl,xb,xc⟩)
 obtain⟨pr,cr,e5⟩:=(hr.below hb).c
 obtain⟨c0,c1,c2,c3⟩:=lvc_new w g ⟨xp,xl,xb,xc⟩
 have hB:Hid (Below w.heap.size w (w.alloc (lvO g ⟨xp,xl,xb,xc⟩))):=⟨hb⟩
 unfold wholeB
 simp only at e5 c0 c1 c2 c3 ⊢
 generalize (rowZ l xp).length=N at e5
 generalize hW:w.alloc (lvO g ⟨xp,xl,xb,xc⟩)=W at e5 c0 c1 c2 c3 hB
 simp only[lvO] at hW
 clear hr hb
 cases xb with
 | false =>
  go_enter Tryz.func68,Tryz.ntmps68
  go_wp2_with fail
  go_quiet (fail)
  go_wp2_with fail
  go_ret
  exact⟨rfl,tdr hB.out⟩
 | true =>
  by_cases hN:xc=N
  ·have b1:((xc:Int)==(N:Int))=true:=by simp[hN]
   have HB:Hid (decide (xc=N)=true):=⟨by simp[hN]⟩
   clear hN
   go_enter Tryz.func68,Tryz.ntmps68
   go_wp2_with fail
   go_quiet (fail)
   go_wp2_with fail
   go_ret
   exact⟨rb (by rw[HB.out];rfl),tdr hB.out⟩
  ·have b1:((xc:Int)==(N:Int))=false:=by simp;omega
   have HB:Hid (decide (xc=N)=false):=⟨by simp[hN]⟩
   clear hN
   go_enter Tryz.func68,Tryz.ntmps68
   go_wp2_with fail
   go_quiet (fail)
   go_wp2_with fail
   go_ret
   exact⟨rb (by rw[HB.out];rfl),tdr hB.out⟩
theorem leave_more {l:List Tk} {x y:Lv} {r:List Lv} (h:overB l x=true):leaveR l (x::y::r)=leaveR l (y::r):=by rw[leaveR,if_pos h]
theorem leave_stay {l:List Tk} {x:Lv} {r:List Lv} (h:¬ (overB l x=true/\r≠[])):leaveR l (x::r)=x::r:=by
 cases r with
 | nil=>rfl
 | cons y r=>rw[leaveR,if_neg (fun e=>h ⟨e,by simp⟩)]
theorem over_mem {l:List Tk} {x:Lv} (h:overB l x=true) (k:Int) (nm:ByteArray):memZ l x k nm=none:=by
 unfold overB wholeB at h
 simp only[Bool.and_eq_true,decide_eq_true_eq] at h
 unfold memZ
 rw[if_pos h.1.1,List.getElem?_eq_none (by omega)]
theorem isOver_any (l:List Tk) (g:Nat) (x:Lv) (w:World) (hr:RwC w g (rowZ l x.p).length) :
  Calls Tryz.prog 44 #[lvV g x] w fun r w'=>r = .returned (.bool (overB l x))/\Below w.heap.size w w':=by
 have hb:=bel1 w (lvO g x)
 have cW:=isWhole_any l g x _ (hr.below hb)
 obtain⟨c0,c1,c2,c3⟩:=lvc_new w g x
 have hB:Hid (Below w.heap.size w (w.alloc (lvO g x))):=⟨hb⟩
 have hsz:Hid ((w.alloc (lvO g x)).heap.size=w.heap.size+1):=⟨World.size_alloc _ _⟩
 unfold overB
 generalize wholeB l x=bw at cW
 obtain⟨xp,xl,xb,xc⟩:=x
 simp only at c0 c1 c2 c3 ⊢
 generalize hW:w.alloc (lvO g ⟨xp,xl,xb,xc⟩)=W at cW c0 c1 c2 c3 hB hsz
 simp only[lvO] at hW
 have K:Hid (∀ W',Below W.heap.size W W'->W'.cell? ⟨w.heap.size,1,none⟩=some (.int .i64 xl)):=⟨fun W' h=>(h.cell (p:=⟨w.heap.size,1,none⟩) (by show w.heap.size<W.heap.size;have:=hsz.out;omega)).trans c1⟩
 clear hr hb
 cases bw with
 | false =>
  go_enter Tryz.func44,Tryz.ntmps44
  go_wp2_with (go_at_call 68;refine cW.mono ?_;rintro _ w1 ⟨rfl,hb1⟩;replace hb1:=Hid.mk hb1)
  go_ret
  exact⟨rfl,hB.out.trans (hb1.out.mono hB.out.size)⟩
 | true =>
  by_cases h0:xl=0
  ·have b1:(xl==0)=true:=by simp[h0]
   have HB:Hid (decide (xl=0)=true):=⟨by simp[h0]⟩
   clear h0
   go_enter Tryz.func44,Tryz.ntmps44
   go_wp2_with (go_at_call 68;refine cW.mono ?_;rintro _ w1 ⟨rfl,hb1⟩;have k1:=K.out _ hb1;replace hb1:=Hid.mk hb1)
   go_ret
   exact⟨rb (by rw[HB.out];rfl),hB.out.trans (hb1.out.mono hB.out.size)⟩
  ·have b1:(xl==0)=false:=by simp[h0]
   have HB:Hid (decide (xl=0)=false):=⟨by simp[h0]⟩
   clear h0
   go_enter Tryz.func44,Tryz.ntmps44
   go_wp2_with (go_at_call 68;refine cW.mono ?_;rintro _ w1 ⟨rfl,hb1⟩;have k1:=K.out _ hb1;replace hb1:=Hid.mk hb1)
   go_ret
   exact⟨rb (by rw[HB.out];rfl),hB.out.trans (hb1.out.mono hB.out.size)⟩
def tops (zs:List (Nat×Lv)) (k:Nat):List Lv:=(zs.take k).reverse.map Prod.snd
theorem tops_succ {zs:List (Nat×Lv)} {k:Nat} {y:Nat×Lv} (h:zs[k]?=some y):tops zs (k+1)=y.2::tops zs k:=by
 unfold tops
 rw[List.take_add_one,h]
 simp
def RwA (l:List Tk) (W:World) (a:Nat) (zs:List (Nat×Lv)):Prop:=∀ y∈zs,RwC W y.1 (rowZ l y.2.p).length/\y.1≠a
theorem RwA.kb {l:List Tk} {W W':World} {a:Nat} {zs:List (Nat×Lv)} (h:RwA l W a zs) (hb:Kb [a] W W'):RwA l W' a zs:=fun y hy=>by
 obtain⟨⟨⟨pr,cr,e⟩,h2⟩,h3⟩:=h y hy
 exact⟨⟨⟨pr,cr,(cell_blk (hb.block y.1 h2 (by simpa using h3))).trans e⟩,Nat.lt_of_lt_of_le h2 hb.size⟩,h3⟩
theorem SM.kb {W W':World} {a go cap k:Nat} {zs:List (Nat×Lv)} {ent:Int} (h:SM W a go cap k zs ent) {k':Nat} (hc:W'.heap[a]?=some (.cells #[.slice (some ⟨go,0,none⟩) k' cap,.int .i64 ent] 103)) (hb:Kb [a] W W') (h1:0<k') (h2:k'<=k):SM W' a go cap k' zs ent :=
 ⟨hc,h.o.same (hb.block go h.lt.2 (by simpa using h.ne.symm)),Nat.le_trans h2 h.kl,h1,h.ne,h.zl⟩
theorem leave_any (l:List Tk) (a go cap k:Nat) (zs:List (Nat×Lv)) (ent:Int) (w:World) (h:SM w a go cap k zs ent) (hp:RwA l w a zs) :
  Calls Tryz.prog 46 #[.pointer (some ⟨a,0,none⟩)] w fun r w'=>r = .returned (.tuple #[])/\∃ k',SM w' a go cap k' zs ent/\Kb [a] w w'/\leaveR l (tops zs k)=tops zs k'/\k'<=k:=by
 have hcl:zs.length<=cap:=by obtain⟨cur,_,h2,_⟩:=h.o;exact h2
 have hzl:=h.zl
 go_enter Tryz.func46,Tryz.ntmps46
 go_wp2_with fail
 go_loopw [2] (fun _ wr=>∃ j:Nat,j<=k/\Hid (SM wr a go cap j zs ent/\Kb [a] w wr/\leaveR l (tops zs k)=leaveR l (tops zs j))) (fun _ wr=>match wr.cell? ⟨a,0,none⟩ with|some (.slice _ n _)=>n|_=>0)
 case atStart=>exact⟨k,Nat.le_refl _,⟨h,Kb.of_below (Below.refl _ _),rfl⟩⟩
 case round =>
  obtain⟨j,hj,hI⟩:=hrel
  obtain⟨hS,hK,hL⟩:=hI.out
  clear hI
  obtain⟨n,rfl⟩:∃ n,j=n+1:=⟨j-1,by have:=hS.k1;omega⟩
  have c0:=hS.c0
  have hn:n<1000000000000:=by have:=hS.kl;omega
  obtain⟨y,hy⟩:∃ y,zs[n]?=some y:=⟨zs[n]'(by have:=hS.kl;omega),List.getElem?_eq_getElem (by have:=hS.kl;omega)⟩
  rw[tops_succ hy] at hL
  by_cases h1:n=0
  ·subst h1
   have b1:decide ((((0+1:Nat):Nat):Int) > 1)=false:=by decide
   have hL':Hid (leaveR l (tops zs k)=tops zs (0+1)):=⟨by rw[hL,tops_succ hy];rfl⟩
   have HS:Hid _:=⟨hS⟩
   have HK:Hid _:=⟨hK⟩
   clear hS hK hL hp h hy
   go_wp2_with fail
   refine bodyPost_end (v:=.tuple #[]) (results_none (by rfl) _ _ _) rfl ⟨rfl,0+1,HS.out,HK.out,hL'.out,hj⟩
  ·obtain⟨n,rfl⟩:∃ m,n=m+1:=⟨n-1,by omega⟩
   have b1:decide (((n+1+1:Nat):Int) > 1)=true:=by simp;omega
   obtain⟨y',hy'⟩:∃ y',zs[n]?=some y':=⟨zs[n]'(by have:=hS.kl;omega),List.getElem?_eq_getElem (by have:=hS.kl;omega)⟩
   have cT:=otop_any a go (n+1) cap wr c0 hn
   have hpw:=hp.kb hK
   have hyp:=hpw y (List.mem_of_getElem? hy)
   have K:Hid (∀ W,Below wr.heap.size wr W->W.cell? ⟨go,(n+1)*4,none⟩=some (.pointer (some ⟨y.1,0,none⟩))/\W.cell? ⟨go,(n+1)*4+1,none⟩=some (.int .i64 y.2.left)/\W.cell? ⟨go,(n+1)*4+2,none⟩=some (.bool y.2.begun)/\W.cell? ⟨go,(n+1)*4+3,none⟩=some (.int .i64 (y.2.come:Int))/\RwC W y.1 (rowZ l y.2.p).length/\SM W a go cap (n+1+1) zs ent/\Kb [a] w W):=⟨fun W hb =>
    have hS':=hS.below hb
    ⟨hS'.o.at hy 0 (by omega),hS'.o.at hy 1 (by omega),hS'.o.at hy 2 (by omega),hS'.o.at hy 3 (by omega),hyp.1.below hb,hS',hK.trans (Kb.of_below hb)⟩⟩
   have cO:=fun W (hb:Below wr.heap.size wr W)=>isOver_any l y.1 y.2 W (K.out W hb).2.2.2.2.1
   cases hv:overB l y.2 with
   | false =>
    rw[hv] at cO
    have hL':Hid (leaveR l (tops zs k)=tops zs (n+1+1)):=⟨by rw[hL,tops_succ hy,leave_stay (fun e=>by rw[hv] at e;exact absurd e.1 (by decide))]⟩
    replace cO:=Hid.mk cO
    clear hS hK hL hp h hy hpw hyp hv hy'
    go_wp2_with (first
     | (go_at_call 47;refine cT.mono ?_;rintro _ w1 ⟨rfl,hb1⟩;obtain⟨t0,t1,t2,t3,-,-,-⟩:=K.out w1 hb1)
     | (go_at_call 44;refine(cO.out w1 hb1).mono ?_;rintro _ w2 ⟨rfl,hb2⟩;have hb3:Hid (Below wr.heap.size wr w2):=⟨hb1.trans (hb2.mono hb1.size)⟩))
    obtain⟨-,-,-,-,-,hS2,hK2⟩:=K.out w2 hb3.out
    exact bodyPost_end (v:=.tuple #[]) (results_none (by rfl) _ _ _) rfl ⟨rfl,n+1+1,hS2,hK2,hL'.out,hj⟩
   | true =>
    rw[hv] at cO
    replace cO:=Hid.mk cO
    have hL':Hid (leaveR l (tops zs k)=leaveR l (tops zs (n+1))):=⟨by rw[hL,tops_succ hy',leave_more hv]⟩
    have cP:=fun W (hb:Below wr.heap.size wr W)=>opop_any a go (n+1) cap ent W (K.out W hb).2.2.2.2.2.1.c (by omega) (by have:=hS.kl;omega)
    replace cP:=Hid.mk cP
    have hne:=hS.ne
    clear hS hK hL hp h hy hpw hyp hv hy'
    go_wp2_with (first
     | (go_at_call 47;refine cT.mono ?_;rintro _ w1 ⟨rfl,hb1⟩;obtain⟨t0,t1,t2,t3,-,-,-⟩:=K.out w1 hb1)
     | (go_at_call 44;refine(cO.out w1 hb1).mono ?_;rintro _ w2 ⟨rfl,hb2⟩;have hb3:Hid (Below wr.heap.size wr w2):=⟨hb1.trans (hb2.mono hb1.size)⟩)
     | (go_at_call 73;refine(cP.out w2 hb3.out).mono ?_;rintro _ w3 ⟨rfl,hc3,hk3⟩;replace hk3:=Hid.mk hk3;have q3:=cell_at hc3 0;replace hc3:=Hid.mk hc3))
    obtain⟨-,-,-,-,-,hS2,hK2⟩:=K.out w2 hb3.out
    exact⟨⟨n+1,by omega,⟨hS2.kb hc3.out hk3.out (by omega) (by omega),hK2.trans hk3.out,hL'.out⟩⟩,by rw[q3,c0];simp⟩
structure Cl where
 k:Int
 nm:ByteArray
 ws:Value
 cnt:Int
 tx:ByteArray
abbrev caV (c:Cl):Value:=.agg #[.int .i64 c.k,.string c.nm,c.ws,.int .i64 c.cnt,.string c.tx]
abbrev caO (c:Cl):Obj:=.cells #[.int .i64 c.k,.string c.nm,c.ws,.int .i64 c.cnt,.string c.tx] 44
structure TM (l:List Tk) (w:World) (a go cap n lo hi:Nat) (zs:List (Nat×Lv)) (ent:Int) (y:Nat×Lv):Prop where
 s:SM w a go cap (n+1) zs ent
 ey:zs[n]?=some y
 p:PtA l w lo hi y.1 y.2.p
 al:a<lo\/hi<=a
 gl:hi<=go
theorem PtA.below {l:List Tk} {W W':World} {lo hi g p:Nat} (h:PtA l W lo hi g p) (hh:hi<=W.heap.size) (hb:Below W.heap.size W W'):PtA l W' lo hi g p:=h.same fun k _ hk=>hb.block k (by omega)
theorem TM.below {l:List Tk} {w w':World} {a go cap n lo hi:Nat} {zs:List (Nat×Lv)} {ent:Int} {y:Nat×Lv} (h:TM l w a go cap n lo hi zs ent y) (hb:Below w.heap.size w w'):TM l w' a go cap n lo hi zs ent y :=
 ⟨h.s.below hb,h.ey,h.p.below (by have:=h.s.lt.2;have:=h.gl;omega) hb,h.al,h.gl⟩
theorem TM.hn {l:List Tk} {w:World} {a go cap n lo hi:Nat} {zs:List (Nat×Lv)} {ent:Int} {y:Nat×Lv} (h:TM l w a go cap n lo hi zs ent y):n<1000000:=by have:=h.s.kl;have:=h.s.zl;omega
theorem TM.cs {l:List Tk} {w:World} {a go cap n lo hi:Nat} {zs:List (Nat×Lv)} {ent:Int} {y:Nat×Lv} (h:TM l w a go cap n lo hi zs ent y):w.cell? ⟨go,n*4,none⟩=some (.pointer (some ⟨y.1,0,none⟩))/\w.cell? ⟨go,n*4+1,none⟩=some (.int .i64 y.2.left)/\w.cell? ⟨go,n*4+2,none⟩=some (.bool y.2.begun)/\w.cell? ⟨go,n*4+3,none⟩=some (.int .i64 (y.2.come:Int)) :=
 ⟨h.s.o.at h.ey 0 (by omega),h.s.o.at h.ey 1 (by omega),h.s.o.at h.ey 2 (by omega),h.s.o.at h.ey 3 (by omega)⟩
theorem TM.fz {l:List Tk} {w:World} {a go cap n lo hi:Nat} {zs:List (Nat×Lv)} {ent:Int} {y:Nat×Lv} (h:TM l w a go cap n lo hi zs ent y) (o:Nat):w.frozen? ⟨go,o,none⟩=false:=by
 obtain⟨cur,h1,_⟩:=h.s.o
 simp[World.frozen?,h1]
theorem Op4.set {W:World} {go cap n j:Nat} {zs:List (Nat×Lv)} (h:Op4 W go cap zs) {y y':Nat×Lv} (hy:zs[n]?=some y) (hj:j<4) {v:Value} (hv:(lvC y.1 y.2).set j v=lvC y'.1 y'.2):Op4 (W.setCell ⟨go,n*4+j,none⟩ v) go cap (zs.set n y'):=by
 obtain⟨cur,h1,h2,h3,h4,h5⟩:=h
 have hn:=(List.getElem?_eq_some_iff.1 hy).1
 have e:(W.setCell ⟨go,n*4+j,none⟩ v).heap=W.heap.modify go (fun o=>match o with
   | .cells cs t f=>.cells (cs.setIfInBounds (n*4+j) v) t f
   | o=>o):=rfl
 refine⟨cur.setIfInBounds (n*4+j) v,?_,by rw[List.length_set];exact h2,h3,by simp[h4],?_⟩
 ·rw[e,Array.getElem?_modify,if_pos rfl,h1]
  rfl
 ·rw[List.length_set,Array.toList_setIfInBounds,List.take_set,h5]
  clear h1 h2 h3 h4 h5 e
  induction zs generalizing n with
  | nil=>cases hy
  | cons z zs ih =>
   cases n with
   | zero =>
    cases hy
    rw[lvCs,Nat.zero_mul,Nat.zero_add,List.set_append_left _ _ (by show j<4;omega),hv]
    rfl
   | succ n =>
    rw[lvCs,List.set_append_right _ _ (by show 4<=_;omega)]
    have hl:(lvC z.1 z.2).length=4:=rfl
    rw[hl,show (n+1)*4+j-4=n*4+j by omega,ih hy (by simpa using hn)]
    rfl
theorem SM.set {W:World} {a go cap n j:Nat} {zs:List (Nat×Lv)} {ent:Int} (h:SM W a go cap (n+1) zs ent) {y y':Nat×Lv} (hy:zs[n]?=some y) (hj:j<4) {v:Value} (hv:(lvC y.1 y.2).set j v=lvC y'.1 y'.2):SM (W.setCell ⟨go,n*4+j,none⟩ v) a go cap (n+1) (zs.set n y') ent/\Kb [go] W (W.setCell ⟨go,n*4+j,none⟩ v)/\(zs.set n y')[n]?=some y':=by
 have hn:=(List.getElem?_eq_some_iff.1 hy).1
 have hb:(W.setCell ⟨go,n*4+j,none⟩ v).heap[a]?=W.heap[a]?:=Below.heap_setCell W _ _ _ h.ne
 exact⟨⟨hb.trans h.c,h.o.set hy hj hv,by rw[List.length_set];exact h.kl,h.k1,h.ne,by rw[List.length_set];exact h.zl⟩,(Kb.of_below (Below.refl _ _)).set (List.mem_singleton.2 rfl) _,by rw[List.getElem?_set_self hn]⟩
theorem SM.put {W:World} {a go cap n:Nat} {zs:List (Nat×Lv)} {ent:Int} (h:SM W a go cap (n+1) zs ent) {y:Nat×Lv} (hy:zs[n]?=some y) (y':Nat×Lv) :
  SM ((((W.setCell ⟨go,n*4,none⟩ (.pointer (some ⟨y'.1,0,none⟩))).setCell ⟨go,n*4+1,none⟩ (.int .i64 y'.2.left)).setCell ⟨go,n*4+2,none⟩ (.bool y'.2.begun)).setCell ⟨go,n*4+3,none⟩ (.int .i64 (y'.2.come:Int))) a go cap (n+1) (zs.set n y') ent /\
  Kb [go] W ((((W.setCell ⟨go,n*4,none⟩ (.pointer (some ⟨y'.1,0,none⟩))).setCell ⟨go,n*4+1,none⟩ (.int .i64 y'.2.left)).setCell ⟨go,n*4+2,none⟩ (.bool y'.2.begun)).setCell ⟨go,n*4+3,none⟩ (.int .i64 (y'.2.come:Int))):=by
 obtain⟨s1,k1,e1⟩:=h.set (j:=0) hy (by omega) (v:=.pointer (some ⟨y'.1,0,none⟩)) (y':=(y'.1,y.2)) rfl
 obtain⟨s2,k2,e2⟩:=s1.set (j:=1) e1 (by omega) (v:=.int .i64 y'.2.left) (y':=(y'.1,⟨y'.2.p,y'.2.left,y.2.begun,y.2.come⟩)) rfl
 obtain⟨s3,k3,e3⟩:=s2.set (j:=2) e2 (by omega) (v:=.bool y'.2.begun) (y':=(y'.1,⟨y'.2.p,y'.2.left,y'.2.begun,y.2.come⟩)) rfl
 obtain⟨s4,k4,e4⟩:=s3.set (j:=3) e3 (by omega) (v:=.int .i64 (y'.2.come:Int)) (y':=y') rfl
 rw[List.set_set,List.set_set,List.set_set] at s4
 exact⟨s4,((k1.trans k2).trans k3).trans k4⟩
theorem SM.drew {W:World} {a go cap k:Nat} {zs:List (Nat×Lv)} {ent:Int} (h:SM W a go cap k zs ent):SM W.drew a go cap k zs ent:=⟨h.c,h.o,h.kl,h.k1,h.ne,h.zl⟩
theorem cl_new (w:World) (c:Cl):(w.alloc (caO c)).cell? ⟨w.heap.size,0,none⟩=some (.int .i64 c.k)/\(w.alloc (caO c)).cell? ⟨w.heap.size,1,none⟩=some (.string c.nm)/\(w.alloc (caO c)).cell? ⟨w.heap.size,3,none⟩=some (.int .i64 c.cnt) :=
 ⟨cell_at (heap_al _ _) 0,cell_at (heap_al _ _) 1,cell_at (heap_al _ _) 3⟩
theorem next_any (l:List Tk) (a go cap n lo hi:Nat) (zs:List (Nat×Lv)) (ent:Int) (y:Nat×Lv) (c:Cl) (w:World) (h:TM l w a go cap n lo hi zs ent y) (ho:LvOk l y.2) :
  Calls Tryz.prog 71 #[.pointer (some ⟨a,0,none⟩),caV c] w fun r w' =>
   (y.2.left=0\/(y.2.begun=true/\wholeB l y.2=false)->r = .returned (.int .i64 140)/\Below w.heap.size w w') /\
   (¬ (y.2.left=0\/(y.2.begun=true/\wholeB l y.2=false))->r = .returned (.int .i64 0)/\SM w' a go cap (n+1) (zs.set n (y.1,⟨y.2.p,y.2.left-1,true,0⟩)) ent/\Kb [go] w w'):=by
 have hB:Hid (Below w.heap.size w (w.alloc (caO c))):=⟨bel1 _ _⟩
 have h1:=h.below hB.out
 have hn:=h.hn
 have cT:=otop_any a go n cap _ h1.s.c0 (by omega)
 have K:Hid (∀ W,Below (w.alloc (caO c)).heap.size (w.alloc (caO c)) W->TM l W a go cap n lo hi zs ent y/\Below w.heap.size w W):=⟨fun W hb=>⟨h1.below hb,hB.out.trans (hb.mono hB.out.size)⟩⟩
 have hgl:Hid (go<w.heap.size):=⟨h.s.lt.2⟩
 have l0:=ho.l0
 have l1:=ho.l1
 generalize hW:w.alloc (caO c)=W at cT K hB h1
 simp only[caO] at hW
 clear h h1
 obtain⟨g,xp,xl,xb,xc⟩:=y
 simp only at l0 l1 ⊢
 by_cases h0:xl=0
 ·have b1:(xl==0)=true:=by simp[h0]
  have HX:Hid (xl=0):=⟨h0⟩
  clear h0
  go_enter Tryz.func71,Tryz.ntmps71
  go_wp2_with (go_at_call 47;refine cT.mono ?_;rintro _ w1 ⟨rfl,hb1⟩;obtain⟨t0,t1,t2,t3⟩:=(K.out w1 hb1).1.cs;replace hb1:=Hid.mk hb1)
  go_ret
  exact⟨fun _=>⟨rfl,(K.out _ hb1.out).2⟩,fun hn=>absurd (.inl HX.out) hn⟩
 ·have b1:(xl==0)=false:=by simp[h0]
  cases hw:wholeB l ⟨xp,xl,xb,xc⟩ with
  | false =>
   cases xb with
   | true =>
    have HX:Hid (xl=0\/True/\True):=⟨.inr ⟨trivial,trivial⟩⟩
    have cW:=fun W hb=>isWhole_any l g ⟨xp,xl,true,xc⟩ W (K.out W hb).1.p.rw
    rw[hw] at cW
    replace cW:=Hid.mk cW
    clear h0 hw
    go_enter Tryz.func71,Tryz.ntmps71
    go_wp2_with (first
     | (go_at_call 47;refine cT.mono ?_;rintro _ w1 ⟨rfl,hb1⟩;obtain⟨t0,t1,t2,t3⟩:=(K.out w1 hb1).1.cs)
     | (go_at_call 68;refine(cW.out w1 hb1).mono ?_;rintro _ w2 ⟨rfl,hb2⟩;have hb3:Hid (Below W.heap.size W w2):=⟨hb1.trans (hb2.mono hb1.size)⟩))
    go_ret
    exact⟨fun _=>⟨rfl,(K.out _ hb3.out).2⟩,fun hn=>absurd (by simp) hn⟩
   | false =>
    have HX:Hid (xl≠0):=⟨h0⟩
    clear h0 hw
    go_enter Tryz.func71,Tryz.ntmps71
    go_wp2_with (go_at_call 47;refine cT.mono ?_;rintro _ w1 ⟨rfl,hb1⟩;obtain⟨t0,t1,t2,t3⟩:=(K.out w1 hb1).1.cs;have z0:=(K.out w1 hb1).1.fz (n*4);have z1:=(K.out w1 hb1).1.fz (n*4+1);have z2:=(K.out w1 hb1).1.fz (n*4+2);have z3:=(K.out w1 hb1).1.fz (n*4+3);replace hb1:=Hid.mk hb1)
    go_region
    go_wp2_with fail
    go_ret
    obtain⟨hT,hBw⟩:=K.out w1 hb1.out
    obtain⟨q1,q2⟩:=hT.s.put hT.ey (g,⟨xp,xl-1,true,0⟩)
    exact⟨fun hn=>absurd hn (by simp[HX.out]),fun _=>⟨rfl,q1.drew,(Kb.of_below hBw).trans (kbdr q2)⟩⟩
  | true =>
   obtain rfl:xb=true:=by
    cases xb with
    | true=>rfl
    | false=>unfold wholeB at hw;cases hw
   have HX:Hid (xl≠0):=⟨h0⟩
   have cW:=fun W hb=>isWhole_any l g ⟨xp,xl,true,xc⟩ W (K.out W hb).1.p.rw
   rw[hw] at cW
   replace cW:=Hid.mk cW
   clear h0 hw
   go_enter Tryz.func71,Tryz.ntmps71
   go_wp2_with (first
    | (go_at_call 47;refine cT.mono ?_;rintro _ w1 ⟨rfl,hb1⟩;obtain⟨t0,t1,t2,t3⟩:=(K.out w1 hb1).1.cs)
    | (go_at_call 68;refine(cW.out w1 hb1).mono ?_;rintro _ w2 ⟨rfl,hb2⟩;have hb3:Hid (Below W.heap.size W w2):=⟨hb1.trans (hb2.mono hb1.size)⟩;obtain⟨s0,s1,s2,s3⟩:=(K.out w2 hb3.out).1.cs;have z0:=(K.out w2 hb3.out).1.fz (n*4);have z1:=(K.out w2 hb3.out).1.fz (n*4+1);have z2:=(K.out w2 hb3.out).1.fz (n*4+2);have z3:=(K.out w2 hb3.out).1.fz (n*4+3);clear t0 t1 t2 t3))
   go_region
   go_wp2_with fail
   go_ret
   obtain⟨hT,hBw⟩:=K.out w2 hb3.out
   obtain⟨q1,q2⟩:=hT.s.put hT.ey (g,⟨xp,xl-1,true,0⟩)
   exact⟨fun hn=>absurd hn (by simp[HX.out]),fun _=>⟨rfl,q1.drew,(Kb.of_below hBw).trans (kbdr q2)⟩⟩
def MemPost (l:List Tk) (w:World) (a go cap n lo hi:Nat) (zs:List (Nat×Lv)) (ent:Int) (y:Nat×Lv) (o:Option Nat) (r:Ending) (w':World):Prop:=match o with
 | none=>r = .returned (.tuple #[.pointer none,.int .i64 140])/\Below w.heap.size w w'
 | some q=>∃ g,r = .returned (.tuple #[.pointer (some ⟨g,0,none⟩),.int .i64 0])/\PtA l w' lo hi g q/\SM w' a go cap (n+1) (zs.set n (y.1,⟨y.2.p,y.2.left,y.2.begun,y.2.come+1⟩)) ent/\Kb [go] w w'
theorem toList_inj {a b:ByteArray} (h:a.toList=b.toList):a=b:=by
 rw[ByteArray.toList_eq,ByteArray.toList_eq] at h
 exact ByteArray.ext (Array.toList_inj.1 h)
theorem res2 {P:Program} {fn:Func} {p q:Tmp} (h:fn.results=#[.tmp p,.tmp q]) (tmps:Array Value) (w:World):(results fn tmps).run P w = .ok (.tuple #[tmps.getD p undef,tmps.getD q undef]) w:=by
 simp[results,h]
theorem member_any (l:List Tk) (a go cap n lo hi:Nat) (zs:List (Nat×Lv)) (ent:Int) (y:Nat×Lv) (c:Cl) (w:World) (h:TM l w a go cap n lo hi zs ent y) (ho:LvOk l y.2) (hll:(rowZ l y.2.p).length<=733007751850) :
  Calls Tryz.prog 105 #[.pointer (some ⟨a,0,none⟩),caV c] w fun r w'=>MemPost l w a go cap n lo hi zs ent y (memZ l y.2 c.k c.nm) r w':=by
 have hB:Hid (Below w.heap.size w (w.alloc (caO c))):=⟨bel1 _ _⟩
 have h1:=h.below hB.out
 have hn:=h.hn
 have cT:=otop_any a go n cap _ h1.s.c0 (by omega)
 have K:Hid (∀ W,Below (w.alloc (caO c)).heap.size (w.alloc (caO c)) W->TM l W a go cap n lo hi zs ent y/\Below w.heap.size w W):=⟨fun W hb=>⟨h1.below hb,hB.out.trans (hb.mono hB.out.size)⟩⟩
 have hsz:Hid ((w.alloc (caO c)).heap.size=w.heap.size+1):=⟨World.size_alloc _ _⟩
 have C:Hid (∀ W,Below (w.alloc (caO c)).heap.size (w.alloc (caO c)) W->W.cell? ⟨w.heap.size,0,none⟩=some (.int .i64 c.k)/\W.cell? ⟨w.heap.size,1,none⟩=some (.string c.nm)):=⟨fun W hb=>by
  obtain⟨e0,e1,_⟩:=cl_new w c
  exact⟨(hb.cell (p:=⟨w.heap.size,0,none⟩) (by show w.heap.size<_;have:=hsz.out;omega)).trans e0,(hb.cell (p:=⟨w.heap.size,1,none⟩) (by show w.heap.size<_;have:=hsz.out;omega)).trans e1⟩⟩
 have hle:=ho.le
 generalize hW:w.alloc (caO c)=W at cT K hB C
 simp only[caO] at hW
 clear h h1 hsz
 obtain⟨g,xp,xl,xb,xc⟩:=y
 simp only at hle hll ⊢
 cases xb with
 | false =>
  have hm:memZ l ⟨xp,xl,false,xc⟩ c.k c.nm=none:=rfl
  rw[hm]
  suffices hh:Calls Tryz.prog 105 #[.pointer (some ⟨a,0,none⟩),caV c] w fun r w'=>r = .returned (.tuple #[.pointer none,.int .i64 140])/\Below w.heap.size w w' from hh.mono fun _ _ h=>h
  clear hm
  go_enter Tryz.func105,Tryz.ntmps105
  go_wp2_with (go_at_call 47;refine cT.mono ?_;rintro _ w1 ⟨rfl,hb1⟩;obtain⟨t0,t1,t2,t3⟩:=(K.out w1 hb1).1.cs;replace hb1:=Hid.mk hb1)
  exact bodyPost_ret (res2 rfl _ _) rfl ⟨rfl,(K.out _ hb1.out).2⟩
 | true =>
  have cW:=fun W hb=>isWhole_any l g ⟨xp,xl,true,xc⟩ W (K.out W hb).1.p.rw
  by_cases hxc:xc=(rowZ l xp).length
  ·have hw:wholeB l ⟨xp,xl,true,xc⟩=true:=by unfold wholeB;simp[hxc]
   rw[hw] at cW
   have hm:memZ l ⟨xp,xl,true,xc⟩ c.k c.nm=none:=by unfold memZ;simp[hxc]
   rw[hm]
   suffices hh:Calls Tryz.prog 105 #[.pointer (some ⟨a,0,none⟩),caV c] w fun r w'=>r = .returned (.tuple #[.pointer none,.int .i64 140])/\Below w.heap.size w w' from hh.mono fun _ _ h=>h
   replace cW:=Hid.mk cW
   clear hm hw hxc
   go_enter Tryz.func105,Tryz.ntmps105
   go_wp2_with (first
    | (go_at_call 47;refine cT.mono ?_;rintro _ w1 ⟨rfl,hb1⟩;obtain⟨t0,t1,t2,t3⟩:=(K.out w1 hb1).1.cs)
    | (go_at_call 68;refine(cW.out w1 hb1).mono ?_;rintro _ w2 ⟨rfl,hb2⟩;have hb3:Hid (Below W.heap.size W w2):=⟨hb1.trans (hb2.mono hb1.size)⟩))
   exact bodyPost_ret (res2 rfl _ _) rfl ⟨rfl,(K.out _ hb3.out).2⟩
  ·have hw:wholeB l ⟨xp,xl,true,xc⟩=false:=by unfold wholeB;simp[hxc]
   rw[hw] at cW
   have hlt:xc<(rowZ l xp).length:=by omega
   obtain⟨q,hq⟩:∃ q,(rowZ l xp)[xc]?=some q:=⟨(rowZ l xp)[xc],List.getElem?_eq_getElem hlt⟩
   have hm:memZ l ⟨xp,xl,true,xc⟩ c.k c.nm=if knd (opAt l q)=c.k/\nmAt l q=c.nm then some q else none:=by unfold memZ;simp[hq]
   rw[hm]
   have hT0:=(K.out W (Below.refl _ _)).1
   obtain⟨m,k,pr,cr,e1,e2,e3⟩:=hT0.p.row
   obtain⟨r,g',rfl,er,hPq⟩:=e3 xc q hq
   obtain⟨m',k',pr',cr',f1,-,-⟩:=hPq.row
   have hgW:g<W.heap.size:=(Array.getElem?_eq_some_iff.1 e1).1
   have hgW':g'<W.heap.size:=(Array.getElem?_eq_some_iff.1 f1).1
   have hrW:r<W.heap.size:=by
    rcases Nat.lt_or_ge r W.heap.size with h|h
    ·exact h
    ·simp[World.cell?,Array.getElem?_eq_none h] at er
   have hhi:hi<=W.heap.size:=by have:=hT0.gl;have:=hT0.s.lt.2;omega
   have R:Hid (∀ W',Below W.heap.size W W'->W'.cell? ⟨g,5,none⟩=some (.slice (some ⟨r,0,none⟩) (rowZ l xp).length cr)/\W'.cell? ⟨r,xc,none⟩=some (.pointer (some ⟨g',0,none⟩))/\W'.cell? ⟨g',0,none⟩=some (.int .i64 (knd (opAt l q)))/\W'.cell? ⟨g',1,none⟩=some (.string (nmAt l q))/\PtA l W' lo hi g' q):=⟨fun W' hb =>
    ⟨(hb.cell (p:=⟨g,5,none⟩) hgW).trans (cell_at e1 5),(hb.cell (p:=⟨r,xc,none⟩) hrW).trans er,(hb.cell (p:=⟨g',0,none⟩) hgW').trans (cell_at f1 0),(hb.cell (p:=⟨g',1,none⟩) hgW').trans (cell_at f1 1),hPq.below hhi hb⟩⟩
   replace cW:=Hid.mk cW
   have hxi:(xc:Int)<((rowZ l xp).length:Int):=by omega
   generalize (rowZ l xp).length=N at hxi hll R
   clear hm hw hxc hle hlt hq hT0 e1 e2 e3 er hPq f1 hgW hgW' hrW hhi
   generalize knd (opAt l q)=kd at R ⊢
   generalize nmAt l q=sq at R ⊢
   by_cases hk:kd=c.k
   ·have bk:(kd != c.k)=false:=by simp[hk]
    have bk':(kd==c.k)=true:=by simp[hk]
    by_cases hs:sq=c.nm
    ·have bs:(sq.toList != c.nm.toList)=false:=by simp[hs]
     have bs':(sq.toList==c.nm.toList)=true:=by simp[hs]
     rw[if_pos ⟨hk,hs⟩]
     suffices hh:Calls Tryz.prog 105 #[.pointer (some ⟨a,0,none⟩),caV c] w fun r w'=>∃ g',r = .returned (.tuple #[.pointer (some ⟨g',0,none⟩),.int .i64 0])/\PtA l w' lo hi g' q/\SM w' a go cap (n+1) (zs.set n (g,⟨xp,xl,true,xc+1⟩)) ent/\Kb [go] w w' from hh.mono fun _ _ h=>h
     clear hk hs
     have hw1:IntKind.i64.wrap ((xc:Int)+1)=(xc:Int)+1:=by rw[IntKind.wrap_i64];omega
     go_enter Tryz.func105,Tryz.ntmps105
     go_wp2_with (first
      | (go_at_call 47;refine cT.mono ?_;rintro _ w1 ⟨rfl,hb1⟩;obtain⟨t0,t1,t2,t3⟩:=(K.out w1 hb1).1.cs)
      | (go_at_call 68;refine(cW.out w1 hb1).mono ?_;rintro _ w2 ⟨rfl,hb2⟩;have hb3:Hid (Below W.heap.size W w2):=⟨hb1.trans (hb2.mono hb1.size)⟩;obtain⟨s0,s1,s2,s3⟩:=(K.out w2 hb3.out).1.cs;obtain⟨u5,ur,v0,v1,-⟩:=R.out w2 hb3.out;obtain⟨x0,x1⟩:=C.out w2 hb3.out;have z3:=(K.out w2 hb3.out).1.fz (n*4+3);clear t0 t1 t2 t3;replace hb2:=Hid.mk hb2))
     go_quiet (fail)
     generalize nq=n1
     go_wp2_with fail
     go_quiet (fail)
     generalize nq=n2
     go_wp2_with fail
     refine bodyPost_ret (res2 rfl _ _) rfl ?_
     have hbd:Below W.heap.size W (w2.drewN (n1+n2)):=tdr hb3.out
     obtain⟨hT,hBw⟩:=K.out _ hbd
     obtain⟨q1,q2,-⟩:=hT.s.set (j:=3) hT.ey (by omega) (v:=.int .i64 ((xc:Int)+1)) (y':=(g,⟨xp,xl,true,xc+1⟩)) rfl
     exact⟨g',rfl,(R.out _ hbd).2.2.2.2.same (fun j _ hj=>Below.heap_setCell _ _ _ _ (by have:=hT.gl;show j≠go;omega)),q1,(Kb.of_below hBw).trans q2⟩
    ·have bs:(sq.toList != c.nm.toList)=true:=by simp only[bne_iff_ne,ne_eq];exact fun e=>hs (toList_inj e)
     have bs':(sq.toList==c.nm.toList)=false:=beq_eq_false_iff_ne.2 fun e=>hs (toList_inj e)
     rw[if_neg (fun e=>hs e.2)]
     suffices hh:Calls Tryz.prog 105 #[.pointer (some ⟨a,0,none⟩),caV c] w fun r w'=>r = .returned (.tuple #[.pointer none,.int .i64 140])/\Below w.heap.size w w' from hh.mono fun _ _ h=>h
     clear hk hs
     go_enter Tryz.func105,Tryz.ntmps105
     go_wp2_with (first
      | (go_at_call 47;refine cT.mono ?_;rintro _ w1 ⟨rfl,hb1⟩;obtain⟨t0,t1,t2,t3⟩:=(K.out w1 hb1).1.cs)
      | (go_at_call 68;refine(cW.out w1 hb1).mono ?_;rintro _ w2 ⟨rfl,hb2⟩;have hb3:Hid (Below W.heap.size W w2):=⟨hb1.trans (hb2.mono hb1.size)⟩;obtain⟨s0,s1,s2,s3⟩:=(K.out w2 hb3.out).1.cs;obtain⟨u5,ur,v0,v1,-⟩:=R.out w2 hb3.out;obtain⟨x0,x1⟩:=C.out w2 hb3.out;have z3:=(K.out w2 hb3.out).1.fz (n*4+3);clear t0 t1 t2 t3;replace hb2:=Hid.mk hb2))
     go_quiet (fail)
     generalize nq=n1
     go_wp2_with fail
     go_quiet (fail)
     generalize nq=n2
     go_wp2_with fail
     refine bodyPost_ret (res2 rfl _ _) rfl ?_
     exact⟨rfl,(K.out _ (tdr (tdr hb3.out))).2⟩
   ·have bk:(kd != c.k)=true:=by simp[hk]
    have bk':(kd==c.k)=false:=by simp[hk]
    rw[if_neg (fun e=>hk e.1)]
    suffices hh:Calls Tryz.prog 105 #[.pointer (some ⟨a,0,none⟩),caV c] w fun r w'=>r = .returned (.tuple #[.pointer none,.int .i64 140])/\Below w.heap.size w w' from hh.mono fun _ _ h=>h
    clear hk
    go_enter Tryz.func105,Tryz.ntmps105
    go_wp2_with (first
     | (go_at_call 47;refine cT.mono ?_;rintro _ w1 ⟨rfl,hb1⟩;obtain⟨t0,t1,t2,t3⟩:=(K.out w1 hb1).1.cs)
     | (go_at_call 68;refine(cW.out w1 hb1).mono ?_;rintro _ w2 ⟨rfl,hb2⟩;have hb3:Hid (Below W.heap.size W w2):=⟨hb1.trans (hb2.mono hb1.size)⟩;obtain⟨s0,s1,s2,s3⟩:=(K.out w2 hb3.out).1.cs;obtain⟨u5,ur,v0,v1,-⟩:=R.out w2 hb3.out;obtain⟨x0,x1⟩:=C.out w2 hb3.out;have z3:=(K.out w2 hb3.out).1.fz (n*4+3);clear t0 t1 t2 t3;replace hb2:=Hid.mk hb2))
    go_quiet (fail)
    generalize nq=n1
    go_wp2_with fail
    go_quiet (fail)
    generalize nq=n2
    go_wp2_with fail
    refine bodyPost_ret (res2 rfl _ _) rfl ?_
    exact⟨rfl,(K.out _ (tdr (tdr hb3.out))).2⟩
theorem data_any (l:List Tk) (a go cap n lo hi:Nat) (zs:List (Nat×Lv)) (ent:Int) (y:Nat×Lv) (c:Cl) (w:World) (h:TM l w a go cap n lo hi zs ent y) (ho:LvOk l y.2) (hll:(rowZ l y.2.p).length<=733007751850) :
  Calls Tryz.prog 72 #[.pointer (some ⟨a,0,none⟩),caV c] w fun r w' =>
   (memZ l y.2 c.k c.nm=none->r = .returned (.int .i64 140)/\Below w.heap.size w w') /\
   (memZ l y.2 c.k c.nm≠none->r = .returned (.int .i64 0)/\SM w' a go cap (n+1) (zs.set n (y.1,⟨y.2.p,y.2.left,y.2.begun,y.2.come+1⟩)) ent/\Kb [go] w w'):=by
 have hB:Hid (Below w.heap.size w (w.alloc (caO c))):=⟨bel1 _ _⟩
 have cM:=member_any l a go cap n lo hi zs ent y c _ (h.below hB.out) ho hll
 obtain⟨c0,c1,c3⟩:=cl_new w c
 have c2:(w.alloc (caO c)).cell? ⟨w.heap.size,2,none⟩=some c.ws:=cell_at (heap_al _ _) 2
 have c4:(w.alloc (caO c)).cell? ⟨w.heap.size,4,none⟩=some (.string c.tx):=cell_at (heap_al _ _) 4
 generalize hW:w.alloc (caO c)=W at cM hB c0 c1 c2 c3 c4
 simp only[caO] at hW
 clear h ho hll
 cases hm:memZ l y.2 c.k c.nm with
 | none =>
  rw[hm] at cM
  have cM:Hid (Calls Tryz.prog 105 #[.pointer (some ⟨a,0,none⟩),caV c] W fun r w'=>r = .returned (.tuple #[.pointer none,.int .i64 140])/\Below W.heap.size W w'):=⟨cM⟩
  clear hm
  go_enter Tryz.func72,Tryz.ntmps72
  go_wp2_with (go_at_call 105;refine cM.out.mono ?_;rintro _ w1 ⟨rfl,hb1⟩;replace hb1:=Hid.mk hb1)
  go_ret
  exact⟨fun _=>⟨rfl,hB.out.trans (hb1.out.mono hB.out.size)⟩,fun h=>absurd rfl h⟩
 | some q =>
  rw[hm] at cM
  have cM:Hid (Calls Tryz.prog 105 #[.pointer (some ⟨a,0,none⟩),caV c] W fun r w'=>∃ g,r = .returned (.tuple #[.pointer (some ⟨g,0,none⟩),.int .i64 0])/\PtA l w' lo hi g q/\SM w' a go cap (n+1) (zs.set n (y.1,⟨y.2.p,y.2.left,y.2.begun,y.2.come+1⟩)) ent/\Kb [go] W w'):=⟨cM⟩
  clear hm
  go_enter Tryz.func72,Tryz.ntmps72
  go_wp2_with (go_at_call 105;refine cM.out.mono ?_;rintro _ w1 ⟨g',rfl,h1,h2,h3⟩;replace h1:=Hid.mk h1;replace h2:=Hid.mk h2;replace h3:=Hid.mk h3)
  go_ret
  exact⟨fun h=>(by cases h),fun _=>⟨rfl,h2.out,(Kb.of_below hB.out).trans h3.out⟩⟩
end Go.Proofs.YtjlbcdnkglaheaaGreatDoor

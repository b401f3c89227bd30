import Derived.Test.YtbhmciieiilcfaaGreatDoorK08
namespace Go.Proofs.YtbhmciieiilcfaaGreatDoor
set_option maxRecDepth 1000000
set_option maxHeartbeats 16000000
open Go.ChangeShapes Go.WideShapes Go.ChangeAt Go.RowKit Go.Shelf Go.Maps
variable {E:Prop} {P:Program} {W W' w w':World} {a b cap cp g go hi j k lo n:Nat} {c ent:Int} {d:DL} {f:Fm} {l:List Tk} {o:Oper} {pp:Option Addr} {v:Value} {y y':Nat×Lv} {ys:List DL} {zs:List (Nat×Lv)}
theorem ent_Row:∀ ag w,(callFunc 51 ag).run Tryz.prog w = .ok (.enter 51 ag) w:=enters_of Tryz.func51 (by kernel_rfl) rfl
theorem clsD {wr:World} {a:Int} (h:DS wr b go cap f pp cp (ys++[d]) g c a) :
  ∃ p:World->Prop,p wr.drew/\(∀ W,p W->Below wr.heap.size wr W)/\(∀ W,Below wr.heap.size wr W->p W)/\Nonempty (CW p) /\
   (∀ θ:CW p,θ.w.cell? ⟨b,13,none⟩=some (.slice (some ⟨go,0,none⟩) (ys.length+1) cap))/\(∀ θ:CW p,θ.w.cell? ⟨b,14,none⟩=some (.int .i64 (g:Int)))/\(∀ θ:CW p,θ.w.cell? ⟨b,15,none⟩=some (.int .i64 c))/\(∀ θ:CW p,θ.w.cell? ⟨b,16,none⟩=some (.int .i64 a)) /\
   (∀ θ:CW p,θ.w.cell? ⟨go,ys.length*4,none⟩=some (.int .i64 (d.at_:Int)))/\(∀ θ:CW p,θ.w.cell? ⟨go,ys.length*4+1,none⟩=some (.int .i64 (d.next:Int)))/\(∀ θ:CW p,θ.w.cell? ⟨go,ys.length*4+2,none⟩=some (.int .i64 d.left))/\(∀ θ:CW p,θ.w.cell? ⟨go,ys.length*4+3,none⟩=some (.bool d.block)) /\
   (∀ W,(∃ θ:CW p,W=θ.w)->(Instr.loadAt 30 (.pointer (some ⟨b,0,none⟩))).run Tryz.prog W = .ok (fmV f pp cp) W)/\(∀ θ:CW p,θ.w.cell? ⟨b,12,none⟩=some (.slice pp f.toks.length cp)):=by
 have hD:∀ θ:CW (Below wr.heap.size wr),DS θ.w b go cap f pp cp (ys++[d]) g c a:=fun θ=>h.below θ.h
 have hg:(ys++[d])[ys.length]?=some d:=by simp
 refine⟨Below wr.heap.size wr,(Below.refl _ _).drew,fun _ h=>h,fun _ h=>h,⟨⟨_,Below.refl _ _⟩⟩,fun θ=>?_,fun θ=>cell_at (hD θ).c 14,fun θ=>cell_at (hD θ).c 15,fun θ=>cell_at (hD θ).c 16,fun θ=>?_,fun θ=>?_,fun θ=>?_,fun θ=>?_,?_,fun θ=>cell_at (hD θ).c 12⟩
 ·have:=cell_at (hD θ).c 13
  simpa using this
 ·exact(hD θ).o.at hg 0 (by decide)
 ·exact(hD θ).o.at hg 1 (by decide)
 ·exact(hD θ).o.at hg 2 (by decide)
 ·exact(hD θ).o.at hg 3 (by decide)
 ·rintro _ ⟨θ,rfl⟩
  exact(dm_form (hD θ).c).load
theorem rowZ_le' (l:List Tk) (p:Nat):(rowZ l p).length<=l.length:=by
 refine Nat.le_trans (List.length_filter_le _ _) ?_
 unfold kidsZ
 split
 ·rename_i t _
  have:∀ m k,(kidF l t.pair.toNat m k).length<=m:=by
   intro m
   induction m with
   | zero=>intro k;exact Nat.le_refl _
   | succ m ih =>
    intro k
    rw[kidF]
    split
    ·rw[List.length_cons];exact Nat.succ_le_succ (ih _)
    ·exact Nat.zero_le _
  exact this _ _
 ·exact Nat.zero_le _
def LvP (b go cap:Nat) (f:Fm) (pp:Option Addr) (cp:Nat) (zs:List DL) (g:Nat) (c a:Int) (w:World) (e:Ending) (w':World):Prop:=match leavesD f.toks ⟨zs.reverse,g,c,a⟩ with
 | none=>e = .returned (.bool false)/\Below w.heap.size w w'
 | some m=>e = .returned (.bool true)/\DS w' b go cap f pp cp m.op.reverse m.group m.count m.all/\Kb [b,go] w w'
theorem lv_no {a:Int} (hn:ys=[]\/g≠0\/0<d.left\/d.next<(rowZ f.toks d.at_).length) (hb:Below w.heap.size w w'):LvP b go cap f pp cp (ys++[d]) g c a w (.returned (.bool false)) w':=by
 have e:leavesD f.toks ⟨(ys++[d]).reverse,g,c,a⟩=none:=by
  unfold leavesD
  rw[List.reverse_append]
  show (match d::ys.reverse with
   | d::e::r=>if g≠0\/0<d.left\/d.next<(rowZ f.toks d.at_).length then none else some (⟨⟨e.at_,e.next+1,e.left,e.block⟩::r,g,c,a⟩:DM)
   | _=>none)=none
  cases hy:ys.reverse with
  | nil=>rfl
  | cons e r =>
   have hne:ys≠[]:=fun h=>by rw[h] at hy;cases hy
   show (if _ then _ else _)=none
   rw[if_pos]
   rcases hn with h|h
   ·exact absurd h hne
   ·exact h
 unfold LvP
 rw[e]
 exact⟨rfl,hb⟩
theorem lv_yes {xs:List DL} {e:DL} {a:Int} {w1:World} (h:DS w b go cap f pp cp (xs++[e]++[d]) g c a) (hb:Below w.heap.size w w1) (h1:¬ g≠0) (h2:¬ 0<d.left) (h3:¬ d.next<(rowZ f.toks d.at_).length) :
  LvP b go cap f pp cp (xs++[e]++[d]) g c a w (.returned (.bool true)) ((w1.setCell ⟨b,13,none⟩ (.slice (some ⟨go,0,none⟩) (xs.length+1) cap)).setCell ⟨go,xs.length*4+1,none⟩ (.int .i64 ((e.next:Int)+1))):=by
 have hL:leavesD f.toks ⟨(xs++[e]++[d]).reverse,g,c,a⟩=some ⟨⟨e.at_,e.next+1,e.left,e.block⟩::xs.reverse,g,c,a⟩:=by
  unfold leavesD
  rw[List.reverse_append,List.reverse_append]
  show (if g≠0\/0<d.left\/d.next<(rowZ f.toks d.at_).length then none else _)=_
  rw[if_neg (by rintro(q|q|q);exact h1 q;exact h2 q;exact h3 q)]
  rfl
 unfold LvP
 rw[hL]
 have hD:=h.below hb
 have ht:(xs++[e]++[d]).take (xs.length+1)=xs++[e]:=by rw[List.take_append_of_le_length (by simp),List.take_of_length_le (by simp)]
 have hO:=hD.o.front (xs.length+1)
 rw[ht] at hO
 have e1:(⟨e.at_,e.next+1,e.left,e.block⟩::xs.reverse:List DL).reverse=xs++[⟨e.at_,e.next+1,e.left,e.block⟩]:=by simp
 have hs:(xs++[e]).set xs.length ⟨e.at_,e.next+1,e.left,e.block⟩=xs++[⟨e.at_,e.next+1,e.left,e.block⟩]:=by simp
 refine⟨rfl,?_,?_⟩
 ·show DS _ b go cap f pp cp (⟨e.at_,e.next+1,e.left,e.block⟩::xs.reverse:List DL).reverse g c a
  rw[e1]
  refine⟨?_,?_,h.ne,by have:=h.zl;simp at this ⊢;omega,by simp⟩
  ·rw[set_oth (Ne.symm h.ne)]
   have:=set_blkD hD.c (.slice (some ⟨go,0,none⟩) (xs.length+1) cap)
   simpa using this
  ·have:=(hO.same (W':=w1.setCell ⟨b,13,none⟩ (.slice (some ⟨go,0,none⟩) (xs.length+1) cap)) (set_oth h.ne)).set (i:=xs.length) (d:=e) (d':=⟨e.at_,e.next+1,e.left,e.block⟩) (by simp) 1 (.int .i64 ((e.next:Int)+1)) (by decide) (by simp[dlC])
   rw[hs] at this
   exact this
 ·exact((Kb.of_below hb).set (by simp) _).set (by simp) _
theorem dLeaves_any {a:Int} (h:DS w b go cap f pp cp (ys++[d]) g c a) (tl:TkL w pp w.heap.size f.toks) (hB:∃ n t ks,Bgn f.toks d.at_ n t ks) (hN:∀ e∈ys,(e.next:Int)<=1000000000000) :
  Calls Tryz.prog 50 #[.pointer (some ⟨b,0,none⟩)] w (LvP b go cap f pp cp (ys++[d]) g c a w):=by
 obtain⟨n,t,ks,hBg⟩:=hB
 have RW:Hid (∀ W,Below w.heap.size w W->Calls Tryz.prog 51 #[fmV f pp cp,.int .i64 (d.at_:Int)] W fun r w'=>∃ v,r = .returned v/\Hid (NRow w' W.heap.size v (rowZ f.toks d.at_))/\Hid (Below W.heap.size W w')):=⟨fun W hW=>(refRow_any f d.at_ n t ks pp cp W ((tl.below hW).mono hW.size) hBg).mono fun r w' ⟨v,h1,h2,h3⟩=>⟨v,h1,⟨h2⟩,⟨h3⟩⟩⟩
 have b13:w.cell? ⟨b,13,none⟩=some (.slice (some ⟨go,0,none⟩) (ys.length+1) cap):=by have:=cell_at h.c 13;simpa using this
 obtain⟨p,p0,pB,pI,pN,c13,c14,c15,c16,k0,k1,k2,k3,LF,c12⟩:=clsD h
 have H:Hid (DS w b go cap f pp cp (ys++[d]) g c a):=⟨h⟩
 have zl:ys.length<=1000000:=by have:=h.zl;simp at this;omega
 have lK:(ys.length:Int)<(ys.length:Int)+1:=by omega
 have rl:Hid ((rowZ f.toks d.at_).length<=1000000000000):=⟨by have:=rowZ_le' f.toks d.at_;have:=tl.len;omega⟩
 have NO:Hid (∀ w',ys=[]\/g≠0\/0<d.left\/d.next<(rowZ f.toks d.at_).length->p w'->LvP b go cap f pp cp (ys++[d]) g c a w (.returned (.bool false)) w'):=⟨fun w' hn hp=>lv_no hn (pB _ hp)⟩
 clear h tl hBg
 by_cases h0:ys=[]
 ·have g0:((ys.length:Int)==0)=true:=by rw[h0];rfl
  have NO1:Hid (∀ w',p w'->LvP b go cap f pp cp (ys++[d]) g c a w (.returned (.bool false)) w'):=⟨fun w' hp=>NO.out w' (.inl h0) hp⟩
  clear h0 NO H
  generalize ys.length=K at *
  go_enter Tryz.func50,Tryz.ntmps50
  go_wp2_with fail
  refine wp_region_ly (fun V=>∃ θ:CW p,V=θ.w) (by kernel_rfl) (by kernel_rfl) (fun _ _ d _ _ h=>by cases d<;>exact h) ⟨⟨_,p0⟩,rfl⟩ ?_
  repeat (refine ly_one rfl ?_;(first|go_big_quiet_skip|(go_big_quiet_want;go_big_quiet_op;go_big_quiet_on));refine wpQuiet_nil ?_)
  refine ly_skip (by rfl) ?_
  simp only[pts]
  repeat (refine ly_one rfl ?_;(first|go_big_quiet_skip|(go_big_quiet_want;go_big_quiet_op;go_big_quiet_on));refine wpQuiet_nil ?_)
  refine ly_done ?_
  go_wp2_with fail
  go_ret
  exact NO1.out _ p0
 have g0:((ys.length:Int)==0)=false:=by simp;exact h0
 by_cases h1:g≠0
 ·have g1:((g:Int) != 0)=true:=by simp;exact h1
  have NO1:Hid (∀ w',p w'->LvP b go cap f pp cp (ys++[d]) g c a w (.returned (.bool false)) w'):=⟨fun w' hp=>NO.out w' (.inr (.inl h1)) hp⟩
  clear h0 h1 NO H
  generalize ys.length=K at *
  generalize (g:Int)=G at *
  go_enter Tryz.func50,Tryz.ntmps50
  go_wp2_with fail
  refine wp_region_ly (fun V=>∃ θ:CW p,V=θ.w) (by kernel_rfl) (by kernel_rfl) (fun _ _ d _ _ h=>by cases d<;>exact h) ⟨⟨_,p0⟩,rfl⟩ ?_
  repeat (refine ly_one rfl ?_;(first|go_big_quiet_skip|(go_big_quiet_want;go_big_quiet_op;go_big_quiet_on));refine wpQuiet_nil ?_)
  refine ly_skip (by rfl) ?_
  simp only[pts]
  repeat (refine ly_one rfl ?_;(first|go_big_quiet_skip|(go_big_quiet_want;go_big_quiet_op;go_big_quiet_on));refine wpQuiet_nil ?_)
  refine ly_done ?_
  go_wp2_with fail
  go_ret
  exact NO1.out _ p0
 have g1:((g:Int) != 0)=false:=by simp;omega
 by_cases h2:0<d.left
 ·have g2:decide (0<d.left)=true:=decide_eq_true h2
  have NO1:Hid (∀ w',p w'->LvP b go cap f pp cp (ys++[d]) g c a w (.returned (.bool false)) w'):=⟨fun w' hp=>NO.out w' (.inr (.inr (.inl h2))) hp⟩
  clear h0 h1 h2 NO H
  generalize ys.length=K at *
  generalize (g:Int)=G at *
  go_enter Tryz.func50,Tryz.ntmps50
  go_wp2_with fail
  refine wp_region_ly (fun V=>∃ θ:CW p,V=θ.w) (by kernel_rfl) (by kernel_rfl) (fun _ _ d _ _ h=>by cases d<;>exact h) ⟨⟨_,p0⟩,rfl⟩ ?_
  repeat (refine ly_one rfl ?_;(first|go_big_quiet_skip|(go_big_quiet_want;go_big_quiet_op;go_big_quiet_on));refine wpQuiet_nil ?_)
  refine ly_skip (by rfl) ?_
  simp only[pts]
  repeat (refine ly_one rfl ?_;(first|go_big_quiet_skip|(go_big_quiet_want;go_big_quiet_op;go_big_quiet_on));refine wpQuiet_nil ?_)
  refine ly_done ?_
  go_wp2_with fail
  go_ret
  exact NO1.out _ p0
 have g2:decide (0<d.left)=false:=decide_eq_false h2
 by_cases h3:d.next<(rowZ f.toks d.at_).length
 ·have g3:decide ((d.next:Int)<((rowZ f.toks d.at_).length:Int))=true:=decide_eq_true (by omega)
  have g3':decide (d.next<(rowZ f.toks d.at_).length)=true:=decide_eq_true h3
  have NO1:Hid (∀ w',p w'->LvP b go cap f pp cp (ys++[d]) g c a w (.returned (.bool false)) w'):=⟨fun w' hp=>NO.out w' (.inr (.inr (.inr h3))) hp⟩
  clear h0 h1 h2 h3 NO H
  generalize hK:ys.length=K at *
  generalize (g:Int)=G at *
  clear hK
  go_enter Tryz.func50,Tryz.ntmps50
  go_wp2_with fail
  refine wp_region_ly (fun V=>∃ θ:CW p,V=θ.w) (by kernel_rfl) (by kernel_rfl) (fun _ _ d _ _ h=>by cases d<;>exact h) ⟨⟨_,p0⟩,rfl⟩ ?_
  repeat (first|(refine ly_ld LF rfl (by rfl) ?_;simp only[pts])|(refine ly_one rfl ?_;(first|go_big_quiet_skip|(go_big_quiet_want;go_big_quiet_op;go_big_quiet_on));refine wpQuiet_nil ?_))
  refine ly_call2 ent_Row (RW.out _ (pB _ p0)) rfl rfl (by rfl) (fun v w1 hR=>?_)
  obtain⟨hR1,hR2⟩:=hR
  have p1:p w1:=pI _ ((pB _ p0).trans (hR2.out.mono (pB _ p0).size))
  obtain⟨vp,vc,rfl,-⟩:=hR1.out.shape
  refine⟨fun V=>∃ θ:CW p,V=θ.w,fun _ h=>h,⟨⟨_,p1⟩,rfl⟩,?_⟩
  simp only[pts]
  repeat (refine ly_one rfl ?_;(first|go_big_quiet_skip|(go_big_quiet_want;go_big_quiet_op;go_big_quiet_on));refine wpQuiet_nil ?_)
  refine ly_done ?_
  go_wp2_with fail
  go_ret
  exact NO1.out _ p1
 have g3:decide ((d.next:Int)<((rowZ f.toks d.at_).length:Int))=false:=decide_eq_false (by omega)
 have g3':decide (d.next<(rowZ f.toks d.at_).length)=false:=decide_eq_false h3
 obtain⟨xs,e,rfl⟩:∃ xs e,ys=xs++[e]:=⟨ys.dropLast,ys.getLast h0,(List.dropLast_concat_getLast h0).symm⟩
 have FIN:Hid (∀ w1,p w1->LvP b go cap f pp cp (xs++[e]++[d]) g c a w (.returned (.bool true)) ((w1.setCell ⟨b,13,none⟩ (.slice (some ⟨go,0,none⟩) (xs.length+1) cap)).setCell ⟨go,xs.length*4+1,none⟩ (.int .i64 ((e.next:Int)+1)))):=⟨fun w1 hp=>lv_yes H.out (pB _ hp) (fun h=>h1 h) h2 h3⟩
 have PW:Hid (∀ w1,p w1->w1.cell? ⟨b,13,none⟩=some (.slice (some ⟨go,0,none⟩) (xs.length+1+1) cap)/\w1.frozen? ⟨b,13,none⟩=false/\w1.cell? ⟨go,xs.length*4+1,none⟩=some (.int .i64 (e.next:Int))/\w1.frozen? ⟨go,xs.length*4+1,none⟩=false):=⟨fun w1 hp=>by
  have hD:=H.out.below (pB _ hp)
  refine⟨?_,froz_of hD.c,?_,hD.o.frz _⟩
  ·have:=cell_at hD.c 13
   simpa using this
  ·exact hD.o.at (i:=xs.length) (d:=e) (by simp) 1 (by decide)⟩
 have ne1:¬ b=go:=H.out.ne
 have ne2:¬ go=b:=fun h=>ne1 h.symm
 have eN:Hid ((e.next:Int)<=1000000000000):=⟨hN e (by simp)⟩
 clear h0 h1 h2 h3 NO
 have hcap:(xs.length:Int)+1<=(cap:Int)/\¬ cap=0:=by
  obtain⟨cur,_,hc,_⟩:=H.out.o
  simp at hc
  omega
 obtain⟨hc1,hc2⟩:=hcap
 have hK0:Hid ((xs++[e]).length=xs.length+1):=⟨by simp⟩
 clear H
 generalize xs++[e]++[d]=zs at *
 generalize (xs++[e]).length=K at *
 generalize (g:Int)=G at *
 go_enter Tryz.func50,Tryz.ntmps50
 go_wp2_with fail
 refine wp_region_ly (fun V=>∃ θ:CW p,V=θ.w) (by kernel_rfl) (by kernel_rfl) (fun _ _ d _ _ h=>by cases d<;>exact h) ⟨⟨_,p0⟩,rfl⟩ ?_
 repeat (first|(refine ly_ld LF rfl (by rfl) ?_;simp only[pts])|(refine ly_one rfl ?_;(first|go_big_quiet_skip|(go_big_quiet_want;go_big_quiet_op;go_big_quiet_on));refine wpQuiet_nil ?_))
 refine ly_call2 ent_Row (RW.out _ (pB _ p0)) rfl rfl (by rfl) (fun v w1 hR=>?_)
 obtain⟨hR1,hR2⟩:=hR
 have p1:p w1:=pI _ ((pB _ p0).trans (hR2.out.mono (pB _ p0).size))
 obtain⟨vp,vc,rfl,-⟩:=hR1.out.shape
 refine⟨fun V=>∃ θ:CW p,V=θ.w,fun _ h=>h,⟨⟨_,p1⟩,rfl⟩,?_⟩
 simp only[pts]
 repeat (refine ly_one rfl ?_;(first|go_big_quiet_skip|(go_big_quiet_want;go_big_quiet_op;go_big_quiet_on));refine wpQuiet_nil ?_)
 refine ly_done ?_
 have hK1:=hK0.out
 clear hK0
 subst hK1
 obtain⟨z1,z2,z3,z4⟩:=PW.out w1 p1
 clear c13 c14 c15 c16 k0 k1 k2 k3 LF c12
 have eN':=eN.out
 go_wp2_with fail
 go_ret
 exact FIN.out _ p1
theorem isOver_any (l:List Tk) (g:Nat) (x:Lv) (w:World) (hr:RwC w g (rowZ l x.p).length) :
  Calls Tryz.prog 43 #[lvV g x] w fun r w'=>r = .returned (.bool (overB l x))/\Below w.heap.size w w':=by
 have hb:=bel1 w (lvO g x)
 have cW:=isWhole_any l g x _ (hr.below hb)
 obtain⟨c0,c1,c2,c3⟩:=lvc_new w g x
 have hB:Hid (Below w.heap.size w (w.alloc (lvO g x))):=⟨hb⟩
 have hsz:Hid ((w.alloc (lvO g x)).heap.size=w.heap.size+1):=⟨World.size_alloc _ _⟩
 unfold overB
 generalize wholeB l x=bw at cW
 obtain⟨xp,xl,xb,xc⟩:=x
 simp only at c0 c1 c2 c3 ⊢
 generalize hW:w.alloc (lvO g ⟨xp,xl,xb,xc⟩)=W at cW c0 c1 c2 c3 hB hsz
 simp only[lvO] at hW
 have K:Hid (∀ W',Below W.heap.size W W'->W'.cell? ⟨w.heap.size,1,none⟩=some (.int .i64 xl)):=⟨fun W' h=>(h.cell (p:=⟨w.heap.size,1,none⟩) (by show w.heap.size<W.heap.size;have:=hsz.out;omega)).trans c1⟩
 clear hr hb
 cases bw with
 | false =>
  go_enter Tryz.func43,Tryz.ntmps43
  go_wp2_with (go_at_call 75;refine cW.mono ?_;rintro _ w1 ⟨rfl,hb1⟩;replace hb1:=Hid.mk hb1)
  go_ret
  exact⟨rfl,hB.out.trans (hb1.out.mono hB.out.size)⟩
 | true =>
  by_cases h0:xl=0
  ·have b1:(xl==0)=true:=by simp[h0]
   have HB:Hid (decide (xl=0)=true):=⟨by simp[h0]⟩
   clear h0
   go_enter Tryz.func43,Tryz.ntmps43
   go_wp2_with (go_at_call 75;refine cW.mono ?_;rintro _ w1 ⟨rfl,hb1⟩;have k1:=K.out _ hb1;replace hb1:=Hid.mk hb1)
   go_ret
   exact⟨rb (by rw[HB.out];rfl),hB.out.trans (hb1.out.mono hB.out.size)⟩
  ·have b1:(xl==0)=false:=by simp[h0]
   have HB:Hid (decide (xl=0)=false):=⟨by simp[h0]⟩
   clear h0
   go_enter Tryz.func43,Tryz.ntmps43
   go_wp2_with (go_at_call 75;refine cW.mono ?_;rintro _ w1 ⟨rfl,hb1⟩;have k1:=K.out _ hb1;replace hb1:=Hid.mk hb1)
   go_ret
   exact⟨rb (by rw[HB.out];rfl),hB.out.trans (hb1.out.mono hB.out.size)⟩
def tops (zs:List (Nat×Lv)) (k:Nat):List Lv:=(zs.take k).reverse.map Prod.snd
theorem tops_succ (h:zs[k]?=some y):tops zs (k+1)=y.2::tops zs k:=by
 unfold tops
 rw[List.take_add_one,h]
 simp
def RwA (l:List Tk) (W:World) (a:Nat) (zs:List (Nat×Lv)):Prop:=∀ y∈zs,RwC W y.1 (rowZ l y.2.p).length/\y.1≠a
theorem RwA.kb (h:RwA l W a zs) (hb:Kb [a] W W'):RwA l W' a zs:=fun y hy=>by
 obtain⟨⟨⟨pr,cr,e⟩,h2⟩,h3⟩:=h y hy
 exact⟨⟨⟨pr,cr,(cell_blk (hb.block y.1 h2 (by simpa using h3))).trans e⟩,Nat.lt_of_lt_of_le h2 hb.size⟩,h3⟩
theorem SM.kb (h:SM W a go cap k zs ent) {k':Nat} (hc:W'.heap[a]?=some (.cells #[.slice (some ⟨go,0,none⟩) k' cap,.int .i64 ent] 60)) (hb:Kb [a] W W') (h1:0<k') (h2:k'<=k):SM W' a go cap k' zs ent :=
 ⟨hc,h.o.same (hb.block go h.lt.2 (by simpa using h.ne.symm)),Nat.le_trans h2 h.kl,h1,h.ne,h.zl⟩
theorem leave_any (l:List Tk) (a go cap k:Nat) (zs:List (Nat×Lv)) (ent:Int) (w:World) (h:SM w a go cap k zs ent) (hp:RwA l w a zs) :
  Calls Tryz.prog 23 #[.pointer (some ⟨a,0,none⟩)] w fun r w'=>r = .returned (.tuple #[])/\∃ k',SM w' a go cap k' zs ent/\Kb [a] w w'/\leaveR l (tops zs k)=tops zs k'/\k'<=k:=by
 have hcl:zs.length<=cap:=by obtain⟨cur,_,h2,_⟩:=h.o;exact h2
 have hzl:=h.zl
 go_enter Tryz.func23,Tryz.ntmps23
 go_wp2_with fail
 go_loopw [2] (fun _ wr=>∃ j:Nat,j<=k/\Hid (SM wr a go cap j zs ent/\Kb [a] w wr/\leaveR l (tops zs k)=leaveR l (tops zs j))) (fun _ wr=>match wr.cell? ⟨a,0,none⟩ with|some (.slice _ n _)=>n|_=>0)
 case atStart=>exact⟨k,Nat.le_refl _,⟨h,Kb.of_below (Below.refl _ _),rfl⟩⟩
 case round =>
  obtain⟨j,hj,hI⟩:=hrel
  obtain⟨hS,hK,hL⟩:=hI.out
  clear hI
  obtain⟨n,rfl⟩:∃ n,j=n+1:=⟨j-1,by have:=hS.k1;omega⟩
  have c0:=hS.c0
  have hn:n<1000000000000:=by have:=hS.kl;omega
  obtain⟨y,hy⟩:∃ y,zs[n]?=some y:=⟨zs[n]'(by have:=hS.kl;omega),List.getElem?_eq_getElem (by have:=hS.kl;omega)⟩
  rw[tops_succ hy] at hL
  by_cases h1:n=0
  ·subst h1
   have b1:decide ((((0+1:Nat):Nat):Int) > 1)=false:=by decide
   have hL':Hid (leaveR l (tops zs k)=tops zs (0+1)):=⟨by rw[hL,tops_succ hy];rfl⟩
   have HS:Hid _:=⟨hS⟩
   have HK:Hid _:=⟨hK⟩
   clear hS hK hL hp h hy
   go_wp2_with fail
   refine bodyPost_end (v:=.tuple #[]) (results_none (by rfl) _ _ _) rfl ⟨rfl,0+1,HS.out,HK.out,hL'.out,hj⟩
  ·obtain⟨n,rfl⟩:∃ m,n=m+1:=⟨n-1,by omega⟩
   have b1:decide (((n+1+1:Nat):Int) > 1)=true:=by simp;omega
   obtain⟨y',hy'⟩:∃ y',zs[n]?=some y':=⟨zs[n]'(by have:=hS.kl;omega),List.getElem?_eq_getElem (by have:=hS.kl;omega)⟩
   have cT:=otop_any a go (n+1) cap wr c0 hn
   have hpw:=hp.kb hK
   have hyp:=hpw y (List.mem_of_getElem? hy)
   have K:Hid (∀ W,Below wr.heap.size wr W->W.cell? ⟨go,(n+1)*4,none⟩=some (.pointer (some ⟨y.1,0,none⟩))/\W.cell? ⟨go,(n+1)*4+1,none⟩=some (.int .i64 y.2.left)/\W.cell? ⟨go,(n+1)*4+2,none⟩=some (.bool y.2.begun)/\W.cell? ⟨go,(n+1)*4+3,none⟩=some (.int .i64 (y.2.come:Int))/\RwC W y.1 (rowZ l y.2.p).length/\SM W a go cap (n+1+1) zs ent/\Kb [a] w W):=⟨fun W hb =>
    have hS':=hS.below hb
    ⟨hS'.o.at hy 0 (by omega),hS'.o.at hy 1 (by omega),hS'.o.at hy 2 (by omega),hS'.o.at hy 3 (by omega),hyp.1.below hb,hS',hK.trans (Kb.of_below hb)⟩⟩
   have cO:=fun W (hb:Below wr.heap.size wr W)=>isOver_any l y.1 y.2 W (K.out W hb).2.2.2.2.1
   cases hv:overB l y.2 with
   | false =>
    rw[hv] at cO
    have hL':Hid (leaveR l (tops zs k)=tops zs (n+1+1)):=⟨by rw[hL,tops_succ hy,leave_stay (fun e=>by rw[hv] at e;exact absurd e.1 (by decide))]⟩
    replace cO:=Hid.mk cO
    clear hS hK hL hp h hy hpw hyp hv hy'
    go_wp2_with (first
     | (go_at_call 24;refine cT.mono ?_;rintro _ w1 ⟨rfl,hb1⟩;obtain⟨t0,t1,t2,t3,-,-,-⟩:=K.out w1 hb1)
     | (go_at_call 43;refine(cO.out w1 hb1).mono ?_;rintro _ w2 ⟨rfl,hb2⟩;have hb3:Hid (Below wr.heap.size wr w2):=⟨hb1.trans (hb2.mono hb1.size)⟩))
    obtain⟨-,-,-,-,-,hS2,hK2⟩:=K.out w2 hb3.out
    exact bodyPost_end (v:=.tuple #[]) (results_none (by rfl) _ _ _) rfl ⟨rfl,n+1+1,hS2,hK2,hL'.out,hj⟩
   | true =>
    rw[hv] at cO
    replace cO:=Hid.mk cO
    have hL':Hid (leaveR l (tops zs k)=leaveR l (tops zs (n+1))):=⟨by rw[hL,tops_succ hy',leave_more hv]⟩
    have cP:=fun W (hb:Below wr.heap.size wr W)=>opop_any a go (n+1) cap ent W (K.out W hb).2.2.2.2.2.1.c (by omega) (by have:=hS.kl;omega)
    replace cP:=Hid.mk cP
    have hne:=hS.ne
    clear hS hK hL hp h hy hpw hyp hv hy'
    go_wp2_with (first
     | (go_at_call 24;refine cT.mono ?_;rintro _ w1 ⟨rfl,hb1⟩;obtain⟨t0,t1,t2,t3,-,-,-⟩:=K.out w1 hb1)
     | (go_at_call 43;refine(cO.out w1 hb1).mono ?_;rintro _ w2 ⟨rfl,hb2⟩;have hb3:Hid (Below wr.heap.size wr w2):=⟨hb1.trans (hb2.mono hb1.size)⟩)
     | (go_at_call 48;refine(cP.out w2 hb3.out).mono ?_;rintro _ w3 ⟨rfl,hc3,hk3⟩;replace hk3:=Hid.mk hk3;have q3:=cell_at hc3 0;replace hc3:=Hid.mk hc3))
    obtain⟨-,-,-,-,-,hS2,hK2⟩:=K.out w2 hb3.out
    exact⟨⟨n+1,by omega,⟨hS2.kb hc3.out hk3.out (by omega) (by omega),hK2.trans hk3.out,hL'.out⟩⟩,by rw[q3,c0];simp⟩
structure Cl where
 k:Int
 nm:ByteArray
 ws:Value
 cnt:Int
 tx:ByteArray
abbrev caV (c:Cl):Value:=.agg #[.int .i64 c.k,.string c.nm,c.ws,.int .i64 c.cnt,.string c.tx]
abbrev caO (c:Cl):Obj:=.cells #[.int .i64 c.k,.string c.nm,c.ws,.int .i64 c.cnt,.string c.tx] 45
structure TM (l:List Tk) (w:World) (a go cap n lo hi:Nat) (zs:List (Nat×Lv)) (ent:Int) (y:Nat×Lv):Prop where
 s:SM w a go cap (n+1) zs ent
 ey:zs[n]?=some y
 p:PtA l w lo hi y.1 y.2.p
 al:a<lo\/hi<=a
 gl:hi<=go
theorem PtA.below {p:Nat} (h:PtA l W lo hi g p) (hh:hi<=W.heap.size) (hb:Below W.heap.size W W'):PtA l W' lo hi g p:=h.same fun k _ hk=>hb.block k (by omega)
theorem TM.below (h:TM l w a go cap n lo hi zs ent y) (hb:Below w.heap.size w w'):TM l w' a go cap n lo hi zs ent y :=
 ⟨h.s.below hb,h.ey,h.p.below (by have:=h.s.lt.2;have:=h.gl;omega) hb,h.al,h.gl⟩
theorem TM.hn (h:TM l w a go cap n lo hi zs ent y):n<1000000:=by have:=h.s.kl;have:=h.s.zl;omega
theorem TM.cs (h:TM l w a go cap n lo hi zs ent y):w.cell? ⟨go,n*4,none⟩=some (.pointer (some ⟨y.1,0,none⟩))/\w.cell? ⟨go,n*4+1,none⟩=some (.int .i64 y.2.left)/\w.cell? ⟨go,n*4+2,none⟩=some (.bool y.2.begun)/\w.cell? ⟨go,n*4+3,none⟩=some (.int .i64 (y.2.come:Int)) :=
 ⟨h.s.o.at h.ey 0 (by omega),h.s.o.at h.ey 1 (by omega),h.s.o.at h.ey 2 (by omega),h.s.o.at h.ey 3 (by omega)⟩
theorem TM.fz (h:TM l w a go cap n lo hi zs ent y) (o:Nat):w.frozen? ⟨go,o,none⟩=false:=by
 obtain⟨cur,h1,_⟩:=h.s.o
 simp[World.frozen?,h1]
theorem Op4.set (h:Op4 W go cap zs) (hy:zs[n]?=some y) (hj:j<4) (hv:(lvC y.1 y.2).set j v=lvC y'.1 y'.2):Op4 (W.setCell ⟨go,n*4+j,none⟩ v) go cap (zs.set n y'):=by
 obtain⟨cur,h1,h2,h3,h4,h5⟩:=h
 have hn:=(List.getElem?_eq_some_iff.1 hy).1
 have e:(W.setCell ⟨go,n*4+j,none⟩ v).heap=W.heap.modify go (fun o=>match o with
   | .cells cs t f=>.cells (cs.setIfInBounds (n*4+j) v) t f
   | o=>o):=rfl
 refine⟨cur.setIfInBounds (n*4+j) v,?_,by rw[List.length_set];exact h2,h3,by simp[h4],?_⟩
 ·rw[e,Array.getElem?_modify,if_pos rfl,h1]
  rfl
 ·rw[List.length_set,Array.toList_setIfInBounds,List.take_set,h5]
  clear h1 h2 h3 h4 h5 e
  induction zs generalizing n with
  | nil=>cases hy
  | cons z zs ih =>
   cases n with
   | zero =>
    cases hy
    rw[lvCs,Nat.zero_mul,Nat.zero_add,List.set_append_left _ _ (by show j<4;omega),hv]
    rfl
   | succ n =>
    rw[lvCs,List.set_append_right _ _ (by show 4<=_;omega)]
    have hl:(lvC z.1 z.2).length=4:=rfl
    rw[hl,show (n+1)*4+j-4=n*4+j by omega,ih hy (by simpa using hn)]
    rfl
theorem SM.set (h:SM W a go cap (n+1) zs ent) (hy:zs[n]?=some y) (hj:j<4) (hv:(lvC y.1 y.2).set j v=lvC y'.1 y'.2):SM (W.setCell ⟨go,n*4+j,none⟩ v) a go cap (n+1) (zs.set n y') ent/\Kb [go] W (W.setCell ⟨go,n*4+j,none⟩ v)/\(zs.set n y')[n]?=some y':=by
 have hn:=(List.getElem?_eq_some_iff.1 hy).1
 have hb:(W.setCell ⟨go,n*4+j,none⟩ v).heap[a]?=W.heap[a]?:=Below.heap_setCell W _ _ _ h.ne
 exact⟨⟨hb.trans h.c,h.o.set hy hj hv,by rw[List.length_set];exact h.kl,h.k1,h.ne,by rw[List.length_set];exact h.zl⟩,(Kb.of_below (Below.refl _ _)).set (List.mem_singleton.2 rfl) _,by rw[List.getElem?_set_self hn]⟩
theorem SM.put (h:SM W a go cap (n+1) zs ent) (hy:zs[n]?=some y) (y':Nat×Lv) :
  SM ((((W.setCell ⟨go,n*4,none⟩ (.pointer (some ⟨y'.1,0,none⟩))).setCell ⟨go,n*4+1,none⟩ (.int .i64 y'.2.left)).setCell ⟨go,n*4+2,none⟩ (.bool y'.2.begun)).setCell ⟨go,n*4+3,none⟩ (.int .i64 (y'.2.come:Int))) a go cap (n+1) (zs.set n y') ent /\
  Kb [go] W ((((W.setCell ⟨go,n*4,none⟩ (.pointer (some ⟨y'.1,0,none⟩))).setCell ⟨go,n*4+1,none⟩ (.int .i64 y'.2.left)).setCell ⟨go,n*4+2,none⟩ (.bool y'.2.begun)).setCell ⟨go,n*4+3,none⟩ (.int .i64 (y'.2.come:Int))):=by
 obtain⟨s1,k1,e1⟩:=h.set (j:=0) hy (by omega) (v:=.pointer (some ⟨y'.1,0,none⟩)) (y':=(y'.1,y.2)) rfl
 obtain⟨s2,k2,e2⟩:=s1.set (j:=1) e1 (by omega) (v:=.int .i64 y'.2.left) (y':=(y'.1,⟨y'.2.p,y'.2.left,y.2.begun,y.2.come⟩)) rfl
 obtain⟨s3,k3,e3⟩:=s2.set (j:=2) e2 (by omega) (v:=.bool y'.2.begun) (y':=(y'.1,⟨y'.2.p,y'.2.left,y'.2.begun,y.2.come⟩)) rfl
 obtain⟨s4,k4,e4⟩:=s3.set (j:=3) e3 (by omega) (v:=.int .i64 (y'.2.come:Int)) (y':=y') rfl
 rw[List.set_set,List.set_set,List.set_set] at s4
 exact⟨s4,((k1.trans k2).trans k3).trans k4⟩
theorem SM.drew (h:SM W a go cap k zs ent):SM W.drew a go cap k zs ent:=⟨h.c,h.o,h.kl,h.k1,h.ne,h.zl⟩
theorem cl_new (w:World) (c:Cl):(w.alloc (caO c)).cell? ⟨w.heap.size,0,none⟩=some (.int .i64 c.k)/\(w.alloc (caO c)).cell? ⟨w.heap.size,1,none⟩=some (.string c.nm)/\(w.alloc (caO c)).cell? ⟨w.heap.size,3,none⟩=some (.int .i64 c.cnt) :=
 ⟨cell_at (heap_al _ _) 0,cell_at (heap_al _ _) 1,cell_at (heap_al _ _) 3⟩
theorem next_any (l:List Tk) (a go cap n lo hi:Nat) (zs:List (Nat×Lv)) (ent:Int) (y:Nat×Lv) (c:Cl) (w:World) (h:TM l w a go cap n lo hi zs ent y) (ho:LvOk l y.2) :
  Calls Tryz.prog 46 #[.pointer (some ⟨a,0,none⟩),caV c] w fun r w' =>
   (y.2.left=0\/(y.2.begun=true/\wholeB l y.2=false)->r = .returned (.int .i64 140)/\Below w.heap.size w w') /\
   (¬ (y.2.left=0\/(y.2.begun=true/\wholeB l y.2=false))->r = .returned (.int .i64 0)/\SM w' a go cap (n+1) (zs.set n (y.1,⟨y.2.p,y.2.left-1,true,0⟩)) ent/\Kb [go] w w'):=by
 have hB:Hid (Below w.heap.size w (w.alloc (caO c))):=⟨bel1 _ _⟩
 have h1:=h.below hB.out
 have hn:=h.hn
 have cT:=otop_any a go n cap _ h1.s.c0 (by omega)
 have K:Hid (∀ W,Below (w.alloc (caO c)).heap.size (w.alloc (caO c)) W->TM l W a go cap n lo hi zs ent y/\Below w.heap.size w W):=⟨fun W hb=>⟨h1.below hb,hB.out.trans (hb.mono hB.out.size)⟩⟩
 have hgl:Hid (go<w.heap.size):=⟨h.s.lt.2⟩
 have l0:=ho.l0
 have l1:=ho.l1
 generalize hW:w.alloc (caO c)=W at cT K hB h1
 simp only[caO] at hW
 clear h h1
 obtain⟨g,xp,xl,xb,xc⟩:=y
 simp only at l0 l1 ⊢
 by_cases h0:xl=0
 ·have b1:(xl==0)=true:=by simp[h0]
  have HX:Hid (xl=0):=⟨h0⟩
  clear h0
  go_enter Tryz.func46,Tryz.ntmps46
  go_wp2_with (go_at_call 24;refine cT.mono ?_;rintro _ w1 ⟨rfl,hb1⟩;obtain⟨t0,t1,t2,t3⟩:=(K.out w1 hb1).1.cs;replace hb1:=Hid.mk hb1)
  go_ret
  exact⟨fun _=>⟨rfl,(K.out _ hb1.out).2⟩,fun hn=>absurd (.inl HX.out) hn⟩
 ·have b1:(xl==0)=false:=by simp[h0]
  cases hw:wholeB l ⟨xp,xl,xb,xc⟩ with
  | false =>
   cases xb with
   | true =>
    have HX:Hid (xl=0\/True/\True):=⟨.inr ⟨trivial,trivial⟩⟩
    have cW:=fun W hb=>isWhole_any l g ⟨xp,xl,true,xc⟩ W (K.out W hb).1.p.rw
    rw[hw] at cW
    replace cW:=Hid.mk cW
    clear h0 hw
    go_enter Tryz.func46,Tryz.ntmps46
    go_wp2_with (first
     | (go_at_call 24;refine cT.mono ?_;rintro _ w1 ⟨rfl,hb1⟩;obtain⟨t0,t1,t2,t3⟩:=(K.out w1 hb1).1.cs)
     | (go_at_call 75;refine(cW.out w1 hb1).mono ?_;rintro _ w2 ⟨rfl,hb2⟩;have hb3:Hid (Below W.heap.size W w2):=⟨hb1.trans (hb2.mono hb1.size)⟩))
    go_ret
    exact⟨fun _=>⟨rfl,(K.out _ hb3.out).2⟩,fun hn=>absurd (by simp) hn⟩
   | false =>
    have HX:Hid (xl≠0):=⟨h0⟩
    clear h0 hw
    go_enter Tryz.func46,Tryz.ntmps46
    go_wp2_with (go_at_call 24;refine cT.mono ?_;rintro _ w1 ⟨rfl,hb1⟩;obtain⟨t0,t1,t2,t3⟩:=(K.out w1 hb1).1.cs;have z0:=(K.out w1 hb1).1.fz (n*4);have z1:=(K.out w1 hb1).1.fz (n*4+1);have z2:=(K.out w1 hb1).1.fz (n*4+2);have z3:=(K.out w1 hb1).1.fz (n*4+3);replace hb1:=Hid.mk hb1)
    go_region
    go_wp2_with fail
    go_ret
    obtain⟨hT,hBw⟩:=K.out w1 hb1.out
    obtain⟨q1,q2⟩:=hT.s.put hT.ey (g,⟨xp,xl-1,true,0⟩)
    exact⟨fun hn=>absurd hn (by simp[HX.out]),fun _=>⟨rfl,q1.drew,(Kb.of_below hBw).trans (kbdr q2)⟩⟩
  | true =>
   obtain rfl:xb=true:=by
    cases xb with
    | true=>rfl
    | false=>unfold wholeB at hw;cases hw
   have HX:Hid (xl≠0):=⟨h0⟩
   have cW:=fun W hb=>isWhole_any l g ⟨xp,xl,true,xc⟩ W (K.out W hb).1.p.rw
   rw[hw] at cW
   replace cW:=Hid.mk cW
   clear h0 hw
   go_enter Tryz.func46,Tryz.ntmps46
   go_wp2_with (first
    | (go_at_call 24;refine cT.mono ?_;rintro _ w1 ⟨rfl,hb1⟩;obtain⟨t0,t1,t2,t3⟩:=(K.out w1 hb1).1.cs)
    | (go_at_call 75;refine(cW.out w1 hb1).mono ?_;rintro _ w2 ⟨rfl,hb2⟩;have hb3:Hid (Below W.heap.size W w2):=⟨hb1.trans (hb2.mono hb1.size)⟩;obtain⟨s0,s1,s2,s3⟩:=(K.out w2 hb3.out).1.cs;have z0:=(K.out w2 hb3.out).1.fz (n*4);have z1:=(K.out w2 hb3.out).1.fz (n*4+1);have z2:=(K.out w2 hb3.out).1.fz (n*4+2);have z3:=(K.out w2 hb3.out).1.fz (n*4+3);clear t0 t1 t2 t3))
   go_region
   go_wp2_with fail
   go_ret
   obtain⟨hT,hBw⟩:=K.out w2 hb3.out
   obtain⟨q1,q2⟩:=hT.s.put hT.ey (g,⟨xp,xl-1,true,0⟩)
   exact⟨fun hn=>absurd hn (by simp[HX.out]),fun _=>⟨rfl,q1.drew,(Kb.of_below hBw).trans (kbdr q2)⟩⟩
def MemPost (l:List Tk) (w:World) (a go cap n lo hi:Nat) (zs:List (Nat×Lv)) (ent:Int) (y:Nat×Lv) (o:Option Nat) (r:Ending) (w':World):Prop:=match o with
 | none=>r = .returned (.tuple #[.pointer none,.int .i64 140])/\Below w.heap.size w w'
 | some q=>∃ g,r = .returned (.tuple #[.pointer (some ⟨g,0,none⟩),.int .i64 0])/\PtA l w' lo hi g q/\SM w' a go cap (n+1) (zs.set n (y.1,⟨y.2.p,y.2.left,y.2.begun,y.2.come+1⟩)) ent/\Kb [go] w w'
theorem toList_inj {a b:ByteArray} (h:a.toList=b.toList):a=b:=by
 rw[ByteArray.toList_eq,ByteArray.toList_eq] at h
 exact ByteArray.ext (Array.toList_inj.1 h)
theorem res2 {fn:Func} {p q:Tmp} (h:fn.results=#[.tmp p,.tmp q]) (tmps:Array Value) (w:World):(results fn tmps).run P w = .ok (.tuple #[tmps.getD p undef,tmps.getD q undef]) w:=by
 simp[results,h]
theorem member_any (l:List Tk) (a go cap n lo hi:Nat) (zs:List (Nat×Lv)) (ent:Int) (y:Nat×Lv) (c:Cl) (w:World) (h:TM l w a go cap n lo hi zs ent y) (ho:LvOk l y.2) (hll:(rowZ l y.2.p).length<=733007751850) :
  Calls Tryz.prog 76 #[.pointer (some ⟨a,0,none⟩),caV c] w fun r w'=>MemPost l w a go cap n lo hi zs ent y (memZ l y.2 c.k c.nm) r w':=by
 have hB:Hid (Below w.heap.size w (w.alloc (caO c))):=⟨bel1 _ _⟩
 have h1:=h.below hB.out
 have hn:=h.hn
 have cT:=otop_any a go n cap _ h1.s.c0 (by omega)
 have K:Hid (∀ W,Below (w.alloc (caO c)).heap.size (w.alloc (caO c)) W->TM l W a go cap n lo hi zs ent y/\Below w.heap.size w W):=⟨fun W hb=>⟨h1.below hb,hB.out.trans (hb.mono hB.out.size)⟩⟩
 have hsz:Hid ((w.alloc (caO c)).heap.size=w.heap.size+1):=⟨World.size_alloc _ _⟩
 have C:Hid (∀ W,Below (w.alloc (caO c)).heap.size (w.alloc (caO c)) W->W.cell? ⟨w.heap.size,0,none⟩=some (.int .i64 c.k)/\W.cell? ⟨w.heap.size,1,none⟩=some (.string c.nm)):=⟨fun W hb=>by
  obtain⟨e0,e1,_⟩:=cl_new w c
  exact⟨(hb.cell (p:=⟨w.heap.size,0,none⟩) (by show w.heap.size<_;have:=hsz.out;omega)).trans e0,(hb.cell (p:=⟨w.heap.size,1,none⟩) (by show w.heap.size<_;have:=hsz.out;omega)).trans e1⟩⟩
 have hle:=ho.le
 generalize hW:w.alloc (caO c)=W at cT K hB C
 simp only[caO] at hW
 clear h h1 hsz
 obtain⟨g,xp,xl,xb,xc⟩:=y
 simp only at hle hll ⊢
 cases xb with
 | false =>
  have hm:memZ l ⟨xp,xl,false,xc⟩ c.k c.nm=none:=rfl
  rw[hm]
  suffices hh:Calls Tryz.prog 76 #[.pointer (some ⟨a,0,none⟩),caV c] w fun r w'=>r = .returned (.tuple #[.pointer none,.int .i64 140])/\Below w.heap.size w w' from hh.mono fun _ _ h=>h
  clear hm
  go_enter Tryz.func76,Tryz.ntmps76
  go_wp2_with (go_at_call 24;refine cT.mono ?_;rintro _ w1 ⟨rfl,hb1⟩;obtain⟨t0,t1,t2,t3⟩:=(K.out w1 hb1).1.cs;replace hb1:=Hid.mk hb1)
  exact bodyPost_ret (res2 rfl _ _) rfl ⟨rfl,(K.out _ hb1.out).2⟩
 | true =>
  have cW:=fun W hb=>isWhole_any l g ⟨xp,xl,true,xc⟩ W (K.out W hb).1.p.rw
  by_cases hxc:xc=(rowZ l xp).length
  ·have hw:wholeB l ⟨xp,xl,true,xc⟩=true:=by unfold wholeB;simp[hxc]
   rw[hw] at cW
   have hm:memZ l ⟨xp,xl,true,xc⟩ c.k c.nm=none:=by unfold memZ;simp[hxc]
   rw[hm]
   suffices hh:Calls Tryz.prog 76 #[.pointer (some ⟨a,0,none⟩),caV c] w fun r w'=>r = .returned (.tuple #[.pointer none,.int .i64 140])/\Below w.heap.size w w' from hh.mono fun _ _ h=>h
   replace cW:=Hid.mk cW
   clear hm hw hxc
   go_enter Tryz.func76,Tryz.ntmps76
   go_wp2_with (first
    | (go_at_call 24;refine cT.mono ?_;rintro _ w1 ⟨rfl,hb1⟩;obtain⟨t0,t1,t2,t3⟩:=(K.out w1 hb1).1.cs)
    | (go_at_call 75;refine(cW.out w1 hb1).mono ?_;rintro _ w2 ⟨rfl,hb2⟩;have hb3:Hid (Below W.heap.size W w2):=⟨hb1.trans (hb2.mono hb1.size)⟩))
   exact bodyPost_ret (res2 rfl _ _) rfl ⟨rfl,(K.out _ hb3.out).2⟩
  ·have hw:wholeB l ⟨xp,xl,true,xc⟩=false:=by unfold wholeB;simp[hxc]
   rw[hw] at cW
   have hlt:xc<(rowZ l xp).length:=by omega
   obtain⟨q,hq⟩:∃ q,(rowZ l xp)[xc]?=some q:=⟨(rowZ l xp)[xc],List.getElem?_eq_getElem hlt⟩
   have hm:memZ l ⟨xp,xl,true,xc⟩ c.k c.nm=if knd (opAt l q)=c.k/\nmAt l q=c.nm then some q else none:=by unfold memZ;simp[hq]
   rw[hm]
   have hT0:=(K.out W (Below.refl _ _)).1
   obtain⟨m,k,pr,cr,e1,e2,e3⟩:=hT0.p.row
   obtain⟨r,g',rfl,er,hPq⟩:=e3 xc q hq
   obtain⟨m',k',pr',cr',f1,-,-⟩:=hPq.row
   have hgW:g<W.heap.size:=(Array.getElem?_eq_some_iff.1 e1).1
   have hgW':g'<W.heap.size:=(Array.getElem?_eq_some_iff.1 f1).1
   have hrW:r<W.heap.size:=by
    rcases Nat.lt_or_ge r W.heap.size with h|h
    ·exact h
    ·simp[World.cell?,Array.getElem?_eq_none h] at er
   have hhi:hi<=W.heap.size:=by have:=hT0.gl;have:=hT0.s.lt.2;omega
   have R:Hid (∀ W',Below W.heap.size W W'->W'.cell? ⟨g,5,none⟩=some (.slice (some ⟨r,0,none⟩) (rowZ l xp).length cr)/\W'.cell? ⟨r,xc,none⟩=some (.pointer (some ⟨g',0,none⟩))/\W'.cell? ⟨g',0,none⟩=some (.int .i64 (knd (opAt l q)))/\W'.cell? ⟨g',1,none⟩=some (.string (nmAt l q))/\PtA l W' lo hi g' q):=⟨fun W' hb =>
    ⟨(hb.cell (p:=⟨g,5,none⟩) hgW).trans (cell_at e1 5),(hb.cell (p:=⟨r,xc,none⟩) hrW).trans er,(hb.cell (p:=⟨g',0,none⟩) hgW').trans (cell_at f1 0),(hb.cell (p:=⟨g',1,none⟩) hgW').trans (cell_at f1 1),hPq.below hhi hb⟩⟩
   replace cW:=Hid.mk cW
   have hxi:(xc:Int)<((rowZ l xp).length:Int):=by omega
   generalize (rowZ l xp).length=N at hxi hll R
   clear hm hw hxc hle hlt hq hT0 e1 e2 e3 er hPq f1 hgW hgW' hrW hhi
   generalize knd (opAt l q)=kd at R ⊢
   generalize nmAt l q=sq at R ⊢
   by_cases hk:kd=c.k
   ·have bk:(kd != c.k)=false:=by simp[hk]
    have bk':(kd==c.k)=true:=by simp[hk]
    by_cases hs:sq=c.nm
    ·have bs:(sq.toList != c.nm.toList)=false:=by simp[hs]
     have bs':(sq.toList==c.nm.toList)=true:=by simp[hs]
     rw[if_pos ⟨hk,hs⟩]
     suffices hh:Calls Tryz.prog 76 #[.pointer (some ⟨a,0,none⟩),caV c] w fun r w'=>∃ g',r = .returned (.tuple #[.pointer (some ⟨g',0,none⟩),.int .i64 0])/\PtA l w' lo hi g' q/\SM w' a go cap (n+1) (zs.set n (g,⟨xp,xl,true,xc+1⟩)) ent/\Kb [go] w w' from hh.mono fun _ _ h=>h
     clear hk hs
     have hw1:IntKind.i64.wrap ((xc:Int)+1)=(xc:Int)+1:=by rw[IntKind.wrap_i64];omega
     go_enter Tryz.func76,Tryz.ntmps76
     go_wp2_with (first
      | (go_at_call 24;refine cT.mono ?_;rintro _ w1 ⟨rfl,hb1⟩;obtain⟨t0,t1,t2,t3⟩:=(K.out w1 hb1).1.cs)
      | (go_at_call 75;refine(cW.out w1 hb1).mono ?_;rintro _ w2 ⟨rfl,hb2⟩;have hb3:Hid (Below W.heap.size W w2):=⟨hb1.trans (hb2.mono hb1.size)⟩;obtain⟨s0,s1,s2,s3⟩:=(K.out w2 hb3.out).1.cs;obtain⟨u5,ur,v0,v1,-⟩:=R.out w2 hb3.out;obtain⟨x0,x1⟩:=C.out w2 hb3.out;have z3:=(K.out w2 hb3.out).1.fz (n*4+3);clear t0 t1 t2 t3;replace hb2:=Hid.mk hb2))
     go_quiet (fail)
     generalize nq=n1
     go_wp2_with fail
     go_quiet (fail)
     generalize nq=n2
     go_wp2_with fail
     refine bodyPost_ret (res2 rfl _ _) rfl ?_
     have hbd:Below W.heap.size W (w2.drewN (n1+n2)):=tdr hb3.out
     obtain⟨hT,hBw⟩:=K.out _ hbd
     obtain⟨q1,q2,-⟩:=hT.s.set (j:=3) hT.ey (by omega) (v:=.int .i64 ((xc:Int)+1)) (y':=(g,⟨xp,xl,true,xc+1⟩)) rfl
     exact⟨g',rfl,(R.out _ hbd).2.2.2.2.same (fun j _ hj=>Below.heap_setCell _ _ _ _ (by have:=hT.gl;show j≠go;omega)),q1,(Kb.of_below hBw).trans q2⟩
    ·have bs:(sq.toList != c.nm.toList)=true:=by simp only[bne_iff_ne,ne_eq];exact fun e=>hs (toList_inj e)
     have bs':(sq.toList==c.nm.toList)=false:=beq_eq_false_iff_ne.2 fun e=>hs (toList_inj e)
     rw[if_neg (fun e=>hs e.2)]
     suffices hh:Calls Tryz.prog 76 #[.pointer (some ⟨a,0,none⟩),caV c] w fun r w'=>r = .returned (.tuple #[.pointer none,.int .i64 140])/\Below w.heap.size w w' from hh.mono fun _ _ h=>h
     clear hk hs
     go_enter Tryz.func76,Tryz.ntmps76
     go_wp2_with (first
      | (go_at_call 24;refine cT.mono ?_;rintro _ w1 ⟨rfl,hb1⟩;obtain⟨t0,t1,t2,t3⟩:=(K.out w1 hb1).1.cs)
      | (go_at_call 75;refine(cW.out w1 hb1).mono ?_;rintro _ w2 ⟨rfl,hb2⟩;have hb3:Hid (Below W.heap.size W w2):=⟨hb1.trans (hb2.mono hb1.size)⟩;obtain⟨s0,s1,s2,s3⟩:=(K.out w2 hb3.out).1.cs;obtain⟨u5,ur,v0,v1,-⟩:=R.out w2 hb3.out;obtain⟨x0,x1⟩:=C.out w2 hb3.out;have z3:=(K.out w2 hb3.out).1.fz (n*4+3);clear t0 t1 t2 t3;replace hb2:=Hid.mk hb2))
     go_quiet (fail)
     generalize nq=n1
     go_wp2_with fail
     go_quiet (fail)
     generalize nq=n2
     go_wp2_with fail
     refine bodyPost_ret (res2 rfl _ _) rfl ?_
     exact⟨rfl,(K.out _ (tdr (tdr hb3.out))).2⟩
   ·have bk:(kd != c.k)=true:=by simp[hk]
    have bk':(kd==c.k)=false:=by simp[hk]
    rw[if_neg (fun e=>hk e.1)]
    suffices hh:Calls Tryz.prog 76 #[.pointer (some ⟨a,0,none⟩),caV c] w fun r w'=>r = .returned (.tuple #[.pointer none,.int .i64 140])/\Below w.heap.size w w' from hh.mono fun _ _ h=>h
    clear hk
    go_enter Tryz.func76,Tryz.ntmps76
    go_wp2_with (first
     | (go_at_call 24;refine cT.mono ?_;rintro _ w1 ⟨rfl,hb1⟩;obtain⟨t0,t1,t2,t3⟩:=(K.out w1 hb1).1.cs)
     | (go_at_call 75;refine(cW.out w1 hb1).mono ?_;rintro _ w2 ⟨rfl,hb2⟩;have hb3:Hid (Below W.heap.size W w2):=⟨hb1.trans (hb2.mono hb1.size)⟩;obtain⟨s0,s1,s2,s3⟩:=(K.out w2 hb3.out).1.cs;obtain⟨u5,ur,v0,v1,-⟩:=R.out w2 hb3.out;obtain⟨x0,x1⟩:=C.out w2 hb3.out;have z3:=(K.out w2 hb3.out).1.fz (n*4+3);clear t0 t1 t2 t3;replace hb2:=Hid.mk hb2))
    go_quiet (fail)
    generalize nq=n1
    go_wp2_with fail
    go_quiet (fail)
    generalize nq=n2
    go_wp2_with fail
    refine bodyPost_ret (res2 rfl _ _) rfl ?_
    exact⟨rfl,(K.out _ (tdr (tdr hb3.out))).2⟩
theorem data_any (l:List Tk) (a go cap n lo hi:Nat) (zs:List (Nat×Lv)) (ent:Int) (y:Nat×Lv) (c:Cl) (w:World) (h:TM l w a go cap n lo hi zs ent y) (ho:LvOk l y.2) (hll:(rowZ l y.2.p).length<=733007751850) :
  Calls Tryz.prog 47 #[.pointer (some ⟨a,0,none⟩),caV c] w fun r w' =>
   (memZ l y.2 c.k c.nm=none->r = .returned (.int .i64 140)/\Below w.heap.size w w') /\
   (memZ l y.2 c.k c.nm≠none->r = .returned (.int .i64 0)/\SM w' a go cap (n+1) (zs.set n (y.1,⟨y.2.p,y.2.left,y.2.begun,y.2.come+1⟩)) ent/\Kb [go] w w'):=by
 have hB:Hid (Below w.heap.size w (w.alloc (caO c))):=⟨bel1 _ _⟩
 have cM:=member_any l a go cap n lo hi zs ent y c _ (h.below hB.out) ho hll
 obtain⟨c0,c1,c3⟩:=cl_new w c
 have c2:(w.alloc (caO c)).cell? ⟨w.heap.size,2,none⟩=some c.ws:=cell_at (heap_al _ _) 2
 have c4:(w.alloc (caO c)).cell? ⟨w.heap.size,4,none⟩=some (.string c.tx):=cell_at (heap_al _ _) 4
 generalize hW:w.alloc (caO c)=W at cM hB c0 c1 c2 c3 c4
 simp only[caO] at hW
 clear h ho hll
 cases hm:memZ l y.2 c.k c.nm with
 | none =>
  rw[hm] at cM
  have cM:Hid (Calls Tryz.prog 76 #[.pointer (some ⟨a,0,none⟩),caV c] W fun r w'=>r = .returned (.tuple #[.pointer none,.int .i64 140])/\Below W.heap.size W w'):=⟨cM⟩
  clear hm
  go_enter Tryz.func47,Tryz.ntmps47
  go_wp2_with (go_at_call 76;refine cM.out.mono ?_;rintro _ w1 ⟨rfl,hb1⟩;replace hb1:=Hid.mk hb1)
  go_ret
  exact⟨fun _=>⟨rfl,hB.out.trans (hb1.out.mono hB.out.size)⟩,fun h=>absurd rfl h⟩
 | some q =>
  rw[hm] at cM
  have cM:Hid (Calls Tryz.prog 76 #[.pointer (some ⟨a,0,none⟩),caV c] W fun r w'=>∃ g,r = .returned (.tuple #[.pointer (some ⟨g,0,none⟩),.int .i64 0])/\PtA l w' lo hi g q/\SM w' a go cap (n+1) (zs.set n (y.1,⟨y.2.p,y.2.left,y.2.begun,y.2.come+1⟩)) ent/\Kb [go] W w'):=⟨cM⟩
  clear hm
  go_enter Tryz.func47,Tryz.ntmps47
  go_wp2_with (go_at_call 76;refine cM.out.mono ?_;rintro _ w1 ⟨g',rfl,h1,h2,h3⟩;replace h1:=Hid.mk h1;replace h2:=Hid.mk h2;replace h3:=Hid.mk h3)
  go_ret
  exact⟨fun h=>(by cases h),fun _=>⟨rfl,h2.out,(Kb.of_below hB.out).trans h3.out⟩⟩
theorem xstep_ex {ops:Array Oper} {a:Act} {K:Act->World->Prop} {Q:Exit->Act->World->Prop} (hgd:o.guard=none) (f:FuncId) (x:Array Operand) (tx:Array TypeId)
  (ho:o.op = .call { callee:=.value (.func f),args:=x,argTypes:=tx }) (hen:∀ ag w,(callFunc f ag).run P w = .ok (.enter f ag) w) (xv:Array Value) (hx:x.map a.eval=xv) (Post:Value->World->Prop)
  (hc:Calls P f xv w fun e w'=>∃ v,e = .returned v/\Post v w') (h:∀ v w',Post v w'->K (a.put o.dst v) w'):if Region.wanted o (yielded ops a.tmps)=true then Oper.wp P o a w K Q else E:=by
 have hw:Region.wanted o (yielded ops a.tmps)=true:=by simp[Region.wanted,hgd]
 rw[if_pos hw]
 unfold Oper.wp execOp
 have hf:a.eval (.func f) = .func (.func f) #[] #[]:=rfl
 simp only[ho,resolve,invoke,Sem.run_bind,hx,hf]
 simp[Deferred.ofValue,hen,Oper.upon_enter]
 refine hc.mono ?_
 rintro e w' ⟨v,rfl,hp⟩
 exact h v w' hp
theorem xstep1 {ops:Array Oper} {a:Act} {K:Act->World->Prop} {Q:Exit->Act->World->Prop} (hgd:o.guard=none) (f:FuncId) (x:Operand) (tx:Array TypeId)
  (ho:o.op = .call { callee:=.value (.func f),args:=#[x],argTypes:=tx }) (hen:∀ ag w,(callFunc f ag).run P w = .ok (.enter f ag) w) (xv:Value) (hx:a.eval x=xv) (Post:Value->World->Prop)
  (hc:Calls P f #[xv] w fun e w'=>∃ v,e = .returned v/\Post v w') (h:∀ v w',Post v w'->K (a.put o.dst v) w'):if Region.wanted o (yielded ops a.tmps)=true then Oper.wp P o a w K Q else E :=
 xstep_ex hgd f #[x] tx ho hen #[xv] (by simp[hx]) Post hc h
theorem xstep2 {ops:Array Oper} {a:Act} {K:Act->World->Prop} {Q:Exit->Act->World->Prop} (hgd:o.guard=none) (f:FuncId) (x y:Operand) (tx:Array TypeId)
  (ho:o.op = .call { callee:=.value (.func f),args:=#[x,y],argTypes:=tx }) (hen:∀ ag w,(callFunc f ag).run P w = .ok (.enter f ag) w) (xv yv:Value) (hx:a.eval x=xv) (hy:a.eval y=yv) (Post:Value->World->Prop)
  (hc:Calls P f #[xv,yv] w fun e w'=>∃ v,e = .returned v/\Post v w') (h:∀ v w',Post v w'->K (a.put o.dst v) w'):if Region.wanted o (yielded ops a.tmps)=true then Oper.wp P o a w K Q else E :=
 xstep_ex hgd f #[x,y] tx ho hen #[xv,yv] (by simp[hx,hy]) Post hc h
theorem step_append_ex {ops:Array Oper} {a:Act} {K:Act->World->Prop} {Q:Exit->Act->World->Prop} (hgd:o.guard=none) (s x:Operand) (t tx:TypeId)
  (ho:o.op = .call { callee:=.builtin .append,args:=#[s,x],argTypes:=#[t,tx] }) (sv xv:Value) (hs:a.eval s=sv) (hx:a.eval x=xv) (Post:Value->World->Prop)
  (hrun:∃ v w',(∀ ty,(Builtin.append_ #[t,tx] ty #[sv,xv]).run P w = .ok v w')/\Post v w')
  (h:∀ v w',Post v w'->K (a.put o.dst v) w'):if Region.wanted o (yielded ops a.tmps)=true then Oper.wp P o a w K Q else E:=by
 have hw:Region.wanted o (yielded ops a.tmps)=true:=by simp[Region.wanted,hgd]
 rw[if_pos hw]
 obtain⟨v,w',hr,hp⟩:=hrun
 unfold Oper.wp execOp
 simp only[ho,resolve,invoke,builtin,Sem.run_bind,Sem.run_pure,Result.andThen_ok,List.map_toArray,List.map_cons,List.map_nil,hs,hx,hr]
 exact h v w' hp
end Go.Proofs.YtbhmciieiilcfaaGreatDoor

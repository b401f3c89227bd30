import Derived.Test.YtahogajcbncjhaaGreatDoorK31
namespace Go.Proofs.YtahogajcbncjhaaGreatDoor
set_option maxRecDepth 1000000
set_option maxHeartbeats 16000000
open Go.ChangeShapes Go.WideShapes Go.ChangeAt Go.RowKit Go.Shelf Go.Maps
theorem wpList_max {P:Program} {w:World} {ops:Array Oper} {rest:List Oper} {o:Oper} {a:Act} {Q:Exit->Act->World->Prop} (hgd:o.guard=none) (x y:Operand) (t u:TypeId)
  (ho:o.op = .call { callee:=.builtin .max,args:=#[x,y],argTypes:=#[t,u] }) (m n:Int) (hx:a.eval x = .int .i64 m) (hy:a.eval y = .int .i64 n) (h:wpList P ops Q rest (a.put o.dst (.int .i64 (max m n))) w):wpList P ops Q (o::rest) a w:=by
 have e:∀ ty,(Builtin.max_ #[t,u] ty #[.int .i64 m,.int .i64 n]).run P w = .ok (.int .i64 (max m n)) w:=fun ty=>by
  simp only[Builtin.max_,List.foldlM,Builtin.max2,Sem.run_bind,Sem.run_pure,Result.andThen_ok]
  have e:(if n > m then n else m)=max m n:=by split<;>omega
  rw[e]
 refine wpList_plain hgd fun _ hK=>?_
 unfold Oper.wp execOp
 simp only[ho,resolve,invoke,builtin,Sem.run_bind,Sem.run_pure,Result.andThen_ok,List.map_toArray,List.map_cons,List.map_nil,hx,hy,e]
 exact hK _ _ h
theorem wpList_min {P:Program} {w:World} {ops:Array Oper} {rest:List Oper} {o:Oper} {a:Act} {Q:Exit->Act->World->Prop} (hgd:o.guard=none) (x y:Operand) (t u:TypeId)
  (ho:o.op = .call { callee:=.builtin .min,args:=#[x,y],argTypes:=#[t,u] }) (m n:Int) (hx:a.eval x = .int .i64 m) (hy:a.eval y = .int .i64 n) (h:wpList P ops Q rest (a.put o.dst (.int .i64 (min m n))) w):wpList P ops Q (o::rest) a w:=by
 have e:∀ ty,(Builtin.min_ #[t,u] ty #[.int .i64 m,.int .i64 n]).run P w = .ok (.int .i64 (min m n)) w:=fun ty=>by
  simp only[Builtin.min_,List.foldlM,Builtin.min2,Sem.run_bind,Sem.run_pure,Result.andThen_ok]
  have e:(if n<m then n else m)=min m n:=by split<;>omega
  rw[e]
 refine wpList_plain hgd fun _ hK=>?_
 unfold Oper.wp execOp
 simp only[ho,resolve,invoke,builtin,Sem.run_bind,Sem.run_pure,Result.andThen_ok,List.map_toArray,List.map_cons,List.map_nil,hx,hy,e]
 exact hK _ _ h
theorem sn_next {l:List Tk} {i k:Nat} {u:Tk} (hu:l[k]?=some u):snF l i (k+1)=if (k=i\/(i:Int)<u.pair)/\toldB u.op=true then max (snF l i k) u.since else snF l i k:=by
 rw[snF,hu]
theorem told_cases (op:Int):(toldB op=true/\(op=0\/op=2\/op=4\/op=6\/op=15))\/(toldB op=false/\(op==0)=false/\(op==2)=false/\(op==4)=false/\(op==6)=false/\(op==15)=false):=by
 by_cases h:op=0\/op=2\/op=4\/op=6\/op=15
 ·exact .inl ⟨decide_eq_true h,h⟩
 ·exact .inr ⟨decide_eq_false h,beqN (by omega),beqN (by omega),beqN (by omega),beqN (by omega),beqN (by omega)⟩
theorem since_A {f:Fm} {pp:Option Addr} {cp:Nat} {w:World} (tl:TkL w pp w.heap.size f.toks) (hlm:f.toks.length*192<=140737488351232) {IX i:Nat} {t:Tk} (ht:f.toks[IX]?=some t) (hc:(t.pair<IX/\t.pair=(i:Int))\/(¬ t.pair<IX/\i=IX)) (hi:i<f.toks.length) {c:Nat} (hs:snF f.toks i (i+1)=(c:Int)) :
  Calls Tryz.prog 8 #[fmV f pp cp,.int .i64 (IX:Int)] w fun e w'=>e = .returned (.int .i64 (c:Int))/\Below w.heap.size w w':=by
 have hb:=bel1 w (fmO f pp cp)
 have H1':=heap_al w (fmO f pp cp)
 have hs1:(w.alloc (fmO f pp cp)).heap.size=w.heap.size+1:=World.size_alloc _ _
 generalize hW:w.alloc (fmO f pp cp)=W1 at hb H1' hs1
 simp only[fmO] at hW
 obtain⟨gf,ofs,pc,cc,rfl,hgf,hTk0,-,-⟩:=tl.row.c IX t ht
 have b20:=(hTk0.below hgf hb).c20
 have y12:W1.cell? ⟨w.heap.size,12,none⟩=some (.slice (some ⟨gf,ofs,none⟩) f.toks.length cp):=cell_at H1' 12
 have hIX:(IX:Int)<f.toks.length:=by have:=(List.getElem?_eq_some_iff.1 ht).1;omega
 have HB:Hid _:=⟨hb⟩
 have H1:Hid _:=⟨H1'⟩
 have HS:Hid (w.heap.size+1<=W1.heap.size):=⟨by omega⟩
 have hT:Hid _:=⟨tl.row⟩
 have hil:Hid (i<f.toks.length/\f.toks.length<=733007751850):=⟨hi,by omega⟩
 have hib:(i:Int)<733007751850:=by omega
 have hSN:Hid _:=⟨hs⟩
 clear hb H1' hs1 tl hlm hi hTk0 ht hs
 generalize t.pair=tp at *
 rcases hc with ⟨h1,rfl⟩|⟨h1,rfl⟩
 ·have d0:decide ((i:Int)<(IX:Int))=true:=by simp;omega
  have d0n:i<IX:=by omega
  clear h1
  go_enter Tryz.func8,Tryz.ntmps8
  go_wp2_with fail
  go_loopw [5,6] (fun qv q wr=>∃ k:Nat,k<=i+1/\q = .int .i64 (k:Int)/\qv = .int .i64 (snF f.toks i k)/\Hid (Below W1.heap.size W1 wr)) (fun _ q _=>i+1-(RowKit.intOf q).toNat)
  case atStart=>exact⟨0,Nat.zero_le _,by go_num,rfl,⟨Below.refl _ _⟩⟩
  case round =>
   obtain⟨k,hk,rfl,rfl,hB⟩:=hrel
   have hBw:Hid (Below w.heap.size w wr):=⟨HB.out.trans (hB.out.mono HB.out.size)⟩
   have x12:wr.cell? ⟨w.heap.size,12,none⟩=some (.slice (some ⟨gf,ofs,none⟩) f.toks.length cp):=cell_at ((hB.out.block _ (by have:=HS.out;omega)).trans H1.out) 12
   by_cases hlt:k<i+1
   ·obtain⟨u,hu⟩:∃ u,f.toks[k]?=some u:=⟨f.toks[k]'(by have:=hil.out;omega),List.getElem?_eq_getElem _⟩
    obtain⟨gf',ofs',pc,cc,e1,hgf',hTk,-,-⟩:=hT.out.c k u hu
    cases e1
    have l1:Hid _:=⟨(hTk.below hgf' hBw.out).load⟩
    obtain⟨W2,s1,hA,hb1,hz1⟩:=ld_new wr u pc cc
    replace s1:=Hid.mk s1
    have a0:W2.cell? ⟨wr.heap.size,0,none⟩=some (.int .i64 u.op):=hA.c0
    have a5:W2.cell? ⟨wr.heap.size,5,none⟩=some (.int .i64 u.since):=hA.c5
    have a20:W2.cell? ⟨wr.heap.size,20,none⟩=some (.int .i64 u.pair):=hA.c20
    have hB2:Hid (Below W1.heap.size W1 W2):=⟨hB.out.trans (hb1.mono hB.out.size)⟩
    have hsn:=sn_next (i:=i) hu
    generalize snF f.toks i k=V at *
    have hkf:(k:Int)<f.toks.length:=by have:=hil.out;omega
    have dki:decide ((k:Int)<=i)=true:=by simp;omega
    have dkn:k<=i:=by omega
    generalize hop:u.op=op at *
    generalize hsi:u.since=si at *
    generalize hpa:u.pair=pa at *
    clear hA hb1 hz1 hTk hB hBw hu hop hsi hpa
    have hold:((k=i)\/(((k:Int)==(i:Int))=false/\decide ((i:Int)<pa)=true/\(i:Int)<pa)\/(((k:Int)==(i:Int))=false/\decide ((i:Int)<pa)=false/\¬ (k=i\/(i:Int)<pa))):=by
     by_cases h1:k=i
     ·exact .inl h1
     ·by_cases h2:(i:Int)<pa
      ·exact .inr (.inl ⟨beqN (by omega),by simp[h2],h2⟩)
      ·exact .inr (.inr ⟨beqN (by omega),by simp[h2],by omega⟩)
    rcases told_cases op with ⟨ht1,ht2⟩|⟨ht1,o1,o2,o3,o4,o5⟩
    ·rcases hold with rfl|⟨k1,k2,k3⟩|⟨k1,k2,k3⟩
     ·rw[if_pos ⟨.inl rfl,ht1⟩] at hsn
      replace hsn:=Hid.mk hsn
      clear ht1
      rcases ht2 with rfl|rfl|rfl|rfl|rfl
      all_goals
       go_wp2_with (first
        | (guard_target =~ wpList _ _ _ (Oper.mk _ (Op.load 42 _) _ _ _ _::_) _ _;go_must (refine wpList_ld 42 _ rfl rfl _ _ rfl l1.out ?_);simp only[pts])
        | (guard_target =~ wpList _ _ _ (Oper.mk _ (Op.store 42 _ _) _ _ _ _::_) _ _;go_must (refine wpList_st 42 _ _ rfl rfl _ _ rfl rfl (s1.out _ rfl) ?_);simp only[pts])
        | (guard_target =~ wpList _ _ _ (Oper.mk _ (Op.call { callee:=Callee.builtin Builtin.max,args:=_,argTypes:=_ }) _ _ _ _::_) _ _;go_must (refine wpList_max (by rfl) _ _ _ _ (by rfl) V si (by rfl) (by rfl) ?_);simp only[pts]))
       go_roundw
       case rel=>exact⟨k+1,by omega,by go_num,by rw[hsn.out],hB2⟩
       case measure=>simp[RowKit.intOf]<;>omega
     ·rw[if_pos ⟨.inr k3,ht1⟩] at hsn
      replace hsn:=Hid.mk hsn
      clear ht1 k3
      rcases ht2 with rfl|rfl|rfl|rfl|rfl
      all_goals
       go_wp2_with (first
        | (guard_target =~ wpList _ _ _ (Oper.mk _ (Op.load 42 _) _ _ _ _::_) _ _;go_must (refine wpList_ld 42 _ rfl rfl _ _ rfl l1.out ?_);simp only[pts])
        | (guard_target =~ wpList _ _ _ (Oper.mk _ (Op.store 42 _ _) _ _ _ _::_) _ _;go_must (refine wpList_st 42 _ _ rfl rfl _ _ rfl rfl (s1.out _ rfl) ?_);simp only[pts])
        | (guard_target =~ wpList _ _ _ (Oper.mk _ (Op.call { callee:=Callee.builtin Builtin.max,args:=_,argTypes:=_ }) _ _ _ _::_) _ _;go_must (refine wpList_max (by rfl) _ _ _ _ (by rfl) V si (by rfl) (by rfl) ?_);simp only[pts]))
       go_roundw
       case rel=>exact⟨k+1,by omega,by go_num,by rw[hsn.out],hB2⟩
       case measure=>simp[RowKit.intOf]<;>omega
     ·rw[if_neg (fun h=>k3 h.1)] at hsn
      replace hsn:=Hid.mk hsn
      clear ht1 k3
      rcases ht2 with rfl|rfl|rfl|rfl|rfl
      all_goals
       go_wp2_with (first
        | (guard_target =~ wpList _ _ _ (Oper.mk _ (Op.load 42 _) _ _ _ _::_) _ _;go_must (refine wpList_ld 42 _ rfl rfl _ _ rfl l1.out ?_);simp only[pts])
        | (guard_target =~ wpList _ _ _ (Oper.mk _ (Op.store 42 _ _) _ _ _ _::_) _ _;go_must (refine wpList_st 42 _ _ rfl rfl _ _ rfl rfl (s1.out _ rfl) ?_);simp only[pts])
        | (guard_target =~ wpList _ _ _ (Oper.mk _ (Op.call { callee:=Callee.builtin Builtin.max,args:=_,argTypes:=_ }) _ _ _ _::_) _ _;go_must (refine wpList_max (by rfl) _ _ _ _ (by rfl) V si (by rfl) (by rfl) ?_);simp only[pts]))
       go_roundw
       case rel=>exact⟨k+1,by omega,by go_num,by rw[hsn.out],hB2⟩
       case measure=>simp[RowKit.intOf]<;>omega
    ·rw[if_neg (fun h=>by rw[ht1] at h;cases h.2)] at hsn
     replace hsn:=Hid.mk hsn
     clear ht1
     rcases hold with rfl|⟨k1,k2,k3⟩|⟨k1,k2,k3⟩
     ·go_wp2_with (first
       | (guard_target =~ wpList _ _ _ (Oper.mk _ (Op.load 42 _) _ _ _ _::_) _ _;go_must (refine wpList_ld 42 _ rfl rfl _ _ rfl l1.out ?_);simp only[pts])
       | (guard_target =~ wpList _ _ _ (Oper.mk _ (Op.store 42 _ _) _ _ _ _::_) _ _;go_must (refine wpList_st 42 _ _ rfl rfl _ _ rfl rfl (s1.out _ rfl) ?_);simp only[pts])
       | (guard_target =~ wpList _ _ _ (Oper.mk _ (Op.call { callee:=Callee.builtin Builtin.max,args:=_,argTypes:=_ }) _ _ _ _::_) _ _;go_must (refine wpList_max (by rfl) _ _ _ _ (by rfl) V si (by rfl) (by rfl) ?_);simp only[pts]))
      go_roundw
      case rel=>exact⟨k+1,by omega,by go_num,by rw[hsn.out],hB2⟩
      case measure=>simp[RowKit.intOf]<;>omega
     ·clear k3
      go_wp2_with (first
       | (guard_target =~ wpList _ _ _ (Oper.mk _ (Op.load 42 _) _ _ _ _::_) _ _;go_must (refine wpList_ld 42 _ rfl rfl _ _ rfl l1.out ?_);simp only[pts])
       | (guard_target =~ wpList _ _ _ (Oper.mk _ (Op.store 42 _ _) _ _ _ _::_) _ _;go_must (refine wpList_st 42 _ _ rfl rfl _ _ rfl rfl (s1.out _ rfl) ?_);simp only[pts])
       | (guard_target =~ wpList _ _ _ (Oper.mk _ (Op.call { callee:=Callee.builtin Builtin.max,args:=_,argTypes:=_ }) _ _ _ _::_) _ _;go_must (refine wpList_max (by rfl) _ _ _ _ (by rfl) V si (by rfl) (by rfl) ?_);simp only[pts]))
      go_roundw
      case rel=>exact⟨k+1,by omega,by go_num,by rw[hsn.out],hB2⟩
      case measure=>simp[RowKit.intOf]<;>omega
     ·clear k3
      go_wp2_with (first
       | (guard_target =~ wpList _ _ _ (Oper.mk _ (Op.load 42 _) _ _ _ _::_) _ _;go_must (refine wpList_ld 42 _ rfl rfl _ _ rfl l1.out ?_);simp only[pts])
       | (guard_target =~ wpList _ _ _ (Oper.mk _ (Op.store 42 _ _) _ _ _ _::_) _ _;go_must (refine wpList_st 42 _ _ rfl rfl _ _ rfl rfl (s1.out _ rfl) ?_);simp only[pts])
       | (guard_target =~ wpList _ _ _ (Oper.mk _ (Op.call { callee:=Callee.builtin Builtin.max,args:=_,argTypes:=_ }) _ _ _ _::_) _ _;go_must (refine wpList_max (by rfl) _ _ _ _ (by rfl) V si (by rfl) (by rfl) ?_);simp only[pts]))
      go_roundw
      case rel=>exact⟨k+1,by omega,by go_num,by rw[hsn.out],hB2⟩
      case measure=>simp[RowKit.intOf]<;>omega
   ·obtain rfl:k=i+1:=by omega
    have hd:decide ((((i+1:Nat)):Int)<=i)=false:=decide_eq_false (by omega)
    have hd2:decide ((i:Int)+1<=i)=false:=decide_eq_false (by omega)
    have hBw':Hid _:=⟨hBw.out⟩
    clear hlt hk hB
    go_wp2_with fail
    go_ret
    exact⟨by rw[hSN.out];rfl,hBw'.out⟩
 ·have d0:decide (tp<(i:Int))=false:=by simp;omega
  clear h1
  go_enter Tryz.func8,Tryz.ntmps8
  go_wp2_with fail
  go_loopw [5,6] (fun qv q wr=>∃ k:Nat,k<=i+1/\q = .int .i64 (k:Int)/\qv = .int .i64 (snF f.toks i k)/\Hid (Below W1.heap.size W1 wr)) (fun _ q _=>i+1-(RowKit.intOf q).toNat)
  case atStart=>exact⟨0,Nat.zero_le _,by go_num,rfl,⟨Below.refl _ _⟩⟩
  case round =>
   obtain⟨k,hk,rfl,rfl,hB⟩:=hrel
   have hBw:Hid (Below w.heap.size w wr):=⟨HB.out.trans (hB.out.mono HB.out.size)⟩
   have x12:wr.cell? ⟨w.heap.size,12,none⟩=some (.slice (some ⟨gf,ofs,none⟩) f.toks.length cp):=cell_at ((hB.out.block _ (by have:=HS.out;omega)).trans H1.out) 12
   by_cases hlt:k<i+1
   ·obtain⟨u,hu⟩:∃ u,f.toks[k]?=some u:=⟨f.toks[k]'(by have:=hil.out;omega),List.getElem?_eq_getElem _⟩
    obtain⟨gf',ofs',pc,cc,e1,hgf',hTk,-,-⟩:=hT.out.c k u hu
    cases e1
    have l1:Hid _:=⟨(hTk.below hgf' hBw.out).load⟩
    obtain⟨W2,s1,hA,hb1,hz1⟩:=ld_new wr u pc cc
    replace s1:=Hid.mk s1
    have a0:W2.cell? ⟨wr.heap.size,0,none⟩=some (.int .i64 u.op):=hA.c0
    have a5:W2.cell? ⟨wr.heap.size,5,none⟩=some (.int .i64 u.since):=hA.c5
    have a20:W2.cell? ⟨wr.heap.size,20,none⟩=some (.int .i64 u.pair):=hA.c20
    have hB2:Hid (Below W1.heap.size W1 W2):=⟨hB.out.trans (hb1.mono hB.out.size)⟩
    have hsn:=sn_next (i:=i) hu
    generalize snF f.toks i k=V at *
    have hkf:(k:Int)<f.toks.length:=by have:=hil.out;omega
    have dki:decide ((k:Int)<=i)=true:=by simp;omega
    have dkn:k<=i:=by omega
    generalize hop:u.op=op at *
    generalize hsi:u.since=si at *
    generalize hpa:u.pair=pa at *
    clear hA hb1 hz1 hTk hB hBw hu hop hsi hpa
    have hold:((k=i)\/(((k:Int)==(i:Int))=false/\decide ((i:Int)<pa)=true/\(i:Int)<pa)\/(((k:Int)==(i:Int))=false/\decide ((i:Int)<pa)=false/\¬ (k=i\/(i:Int)<pa))):=by
     by_cases h1:k=i
     ·exact .inl h1
     ·by_cases h2:(i:Int)<pa
      ·exact .inr (.inl ⟨beqN (by omega),by simp[h2],h2⟩)
      ·exact .inr (.inr ⟨beqN (by omega),by simp[h2],by omega⟩)
    rcases told_cases op with ⟨ht1,ht2⟩|⟨ht1,o1,o2,o3,o4,o5⟩
    ·rcases hold with rfl|⟨k1,k2,k3⟩|⟨k1,k2,k3⟩
     ·rw[if_pos ⟨.inl rfl,ht1⟩] at hsn
      replace hsn:=Hid.mk hsn
      clear ht1
      rcases ht2 with rfl|rfl|rfl|rfl|rfl
      all_goals
       go_wp2_with (first
        | (guard_target =~ wpList _ _ _ (Oper.mk _ (Op.load 42 _) _ _ _ _::_) _ _;go_must (refine wpList_ld 42 _ rfl rfl _ _ rfl l1.out ?_);simp only[pts])
        | (guard_target =~ wpList _ _ _ (Oper.mk _ (Op.store 42 _ _) _ _ _ _::_) _ _;go_must (refine wpList_st 42 _ _ rfl rfl _ _ rfl rfl (s1.out _ rfl) ?_);simp only[pts])
        | (guard_target =~ wpList _ _ _ (Oper.mk _ (Op.call { callee:=Callee.builtin Builtin.max,args:=_,argTypes:=_ }) _ _ _ _::_) _ _;go_must (refine wpList_max (by rfl) _ _ _ _ (by rfl) V si (by rfl) (by rfl) ?_);simp only[pts]))
       go_roundw
       case rel=>exact⟨k+1,by omega,by go_num,by rw[hsn.out],hB2⟩
       case measure=>simp[RowKit.intOf]<;>omega
     ·rw[if_pos ⟨.inr k3,ht1⟩] at hsn
      replace hsn:=Hid.mk hsn
      clear ht1 k3
      rcases ht2 with rfl|rfl|rfl|rfl|rfl
      all_goals
       go_wp2_with (first
        | (guard_target =~ wpList _ _ _ (Oper.mk _ (Op.load 42 _) _ _ _ _::_) _ _;go_must (refine wpList_ld 42 _ rfl rfl _ _ rfl l1.out ?_);simp only[pts])
        | (guard_target =~ wpList _ _ _ (Oper.mk _ (Op.store 42 _ _) _ _ _ _::_) _ _;go_must (refine wpList_st 42 _ _ rfl rfl _ _ rfl rfl (s1.out _ rfl) ?_);simp only[pts])
        | (guard_target =~ wpList _ _ _ (Oper.mk _ (Op.call { callee:=Callee.builtin Builtin.max,args:=_,argTypes:=_ }) _ _ _ _::_) _ _;go_must (refine wpList_max (by rfl) _ _ _ _ (by rfl) V si (by rfl) (by rfl) ?_);simp only[pts]))
       go_roundw
       case rel=>exact⟨k+1,by omega,by go_num,by rw[hsn.out],hB2⟩
       case measure=>simp[RowKit.intOf]<;>omega
     ·rw[if_neg (fun h=>k3 h.1)] at hsn
      replace hsn:=Hid.mk hsn
      clear ht1 k3
      rcases ht2 with rfl|rfl|rfl|rfl|rfl
      all_goals
       go_wp2_with (first
        | (guard_target =~ wpList _ _ _ (Oper.mk _ (Op.load 42 _) _ _ _ _::_) _ _;go_must (refine wpList_ld 42 _ rfl rfl _ _ rfl l1.out ?_);simp only[pts])
        | (guard_target =~ wpList _ _ _ (Oper.mk _ (Op.store 42 _ _) _ _ _ _::_) _ _;go_must (refine wpList_st 42 _ _ rfl rfl _ _ rfl rfl (s1.out _ rfl) ?_);simp only[pts])
        | (guard_target =~ wpList _ _ _ (Oper.mk _ (Op.call { callee:=Callee.builtin Builtin.max,args:=_,argTypes:=_ }) _ _ _ _::_) _ _;go_must (refine wpList_max (by rfl) _ _ _ _ (by rfl) V si (by rfl) (by rfl) ?_);simp only[pts]))
       go_roundw
       case rel=>exact⟨k+1,by omega,by go_num,by rw[hsn.out],hB2⟩
       case measure=>simp[RowKit.intOf]<;>omega
    ·rw[if_neg (fun h=>by rw[ht1] at h;cases h.2)] at hsn
     replace hsn:=Hid.mk hsn
     clear ht1
     rcases hold with rfl|⟨k1,k2,k3⟩|⟨k1,k2,k3⟩
     ·go_wp2_with (first
       | (guard_target =~ wpList _ _ _ (Oper.mk _ (Op.load 42 _) _ _ _ _::_) _ _;go_must (refine wpList_ld 42 _ rfl rfl _ _ rfl l1.out ?_);simp only[pts])
       | (guard_target =~ wpList _ _ _ (Oper.mk _ (Op.store 42 _ _) _ _ _ _::_) _ _;go_must (refine wpList_st 42 _ _ rfl rfl _ _ rfl rfl (s1.out _ rfl) ?_);simp only[pts])
       | (guard_target =~ wpList _ _ _ (Oper.mk _ (Op.call { callee:=Callee.builtin Builtin.max,args:=_,argTypes:=_ }) _ _ _ _::_) _ _;go_must (refine wpList_max (by rfl) _ _ _ _ (by rfl) V si (by rfl) (by rfl) ?_);simp only[pts]))
      go_roundw
      case rel=>exact⟨k+1,by omega,by go_num,by rw[hsn.out],hB2⟩
      case measure=>simp[RowKit.intOf]<;>omega
     ·clear k3
      go_wp2_with (first
       | (guard_target =~ wpList _ _ _ (Oper.mk _ (Op.load 42 _) _ _ _ _::_) _ _;go_must (refine wpList_ld 42 _ rfl rfl _ _ rfl l1.out ?_);simp only[pts])
       | (guard_target =~ wpList _ _ _ (Oper.mk _ (Op.store 42 _ _) _ _ _ _::_) _ _;go_must (refine wpList_st 42 _ _ rfl rfl _ _ rfl rfl (s1.out _ rfl) ?_);simp only[pts])
       | (guard_target =~ wpList _ _ _ (Oper.mk _ (Op.call { callee:=Callee.builtin Builtin.max,args:=_,argTypes:=_ }) _ _ _ _::_) _ _;go_must (refine wpList_max (by rfl) _ _ _ _ (by rfl) V si (by rfl) (by rfl) ?_);simp only[pts]))
      go_roundw
      case rel=>exact⟨k+1,by omega,by go_num,by rw[hsn.out],hB2⟩
      case measure=>simp[RowKit.intOf]<;>omega
     ·clear k3
      go_wp2_with (first
       | (guard_target =~ wpList _ _ _ (Oper.mk _ (Op.load 42 _) _ _ _ _::_) _ _;go_must (refine wpList_ld 42 _ rfl rfl _ _ rfl l1.out ?_);simp only[pts])
       | (guard_target =~ wpList _ _ _ (Oper.mk _ (Op.store 42 _ _) _ _ _ _::_) _ _;go_must (refine wpList_st 42 _ _ rfl rfl _ _ rfl rfl (s1.out _ rfl) ?_);simp only[pts])
       | (guard_target =~ wpList _ _ _ (Oper.mk _ (Op.call { callee:=Callee.builtin Builtin.max,args:=_,argTypes:=_ }) _ _ _ _::_) _ _;go_must (refine wpList_max (by rfl) _ _ _ _ (by rfl) V si (by rfl) (by rfl) ?_);simp only[pts]))
      go_roundw
      case rel=>exact⟨k+1,by omega,by go_num,by rw[hsn.out],hB2⟩
      case measure=>simp[RowKit.intOf]<;>omega
   ·obtain rfl:k=i+1:=by omega
    have hd:decide ((((i+1:Nat)):Int)<=i)=false:=decide_eq_false (by omega)
    have hd2:decide ((i:Int)+1<=i)=false:=decide_eq_false (by omega)
    have hBw':Hid _:=⟨hBw.out⟩
    clear hlt hk hB
    go_wp2_with fail
    go_ret
    exact⟨by rw[hSN.out];rfl,hBw'.out⟩
theorem since_any {f:Fm} {pp:Option Addr} {cp:Nat} {w:World} (hz:chkZ f=none) (tl:TkL w pp w.heap.size f.toks) (hlm:f.toks.length*192<=140737488351232) {i:Nat} (hi:i<f.toks.length) :
  Calls Tryz.prog 8 #[fmV f pp cp,.int .i64 (i:Int)] w fun e w'=>e = .returned (.int .i64 (((camZ f).getD i 0:Nat):Int))/\Below w.heap.size w w':=by
 obtain⟨t,ht⟩:∃ t,f.toks[i]?=some t:=⟨f.toks[i],List.getElem?_eq_getElem hi⟩
 rcases val_tok hz ht with ⟨he,-,x,o,e1,e2,e3⟩|⟨he,-,n,e1,e2,e3⟩|⟨he,-,e1,-⟩
 ·have hxm:x∈(stA f i).open_:=by rw[e1];exact List.mem_cons_self ..
  have hx:=(val_ok hz ht).2.all x hxm
  have hs:=sn_in hz hx.tk (bgO_end hx.beg)
  rw[<- came_end hz ht he e1] at hs
  exact since_A tl hlm ht (i:=x.at_) (.inl ⟨by omega,e2⟩) (by omega) hs
 ·exact since_A tl hlm ht (i:=i) (.inr ⟨by omega,rfl⟩) hi (sn_in hz ht he)
 ·exact since_A tl hlm ht (i:=i) (.inr ⟨by omega,rfl⟩) hi (sn_in hz ht he)
end Go.Proofs.YtahogajcbncjhaaGreatDoor

import Derived.Test.YtekpgklllfobfaaGreatDoorK14
import Derived.Deep.Upon
namespace Go.Proofs.YtekpgklllfobfaaGreatDoor
set_option maxRecDepth 1000000
set_option maxHeartbeats 16000000
open Go.ChangeShapes Go.WideShapes Go.ChangeAt Go.RowKit
theorem Buf.lit {w:World} {B:Nat} {v:Value} {L:List Nat} (h:Buf w B v L) (M:List Nat) (n c:Nat) (hn:M.length=n) (hl:L.length+M.length<=140737488355328) (hB:B<=w.heap.size) :
  ∃ v' w',(∀ ty,(Builtin.append_ #[29,29] ty #[v,.slice (some ⟨w.heap.size,0,none⟩) n c]).run Tryz.prog (w.alloc (.cells (M.map cU).toArray 5)) = .ok v' w')/\(Buf w' B v' (L++M)/\Below B w w'):=by
 subst hn
 obtain⟨v',w',h1,h2,h3⟩:=Buf.append (w:=w.alloc (.cells (M.map cU).toArray 5)) (tx:=29) (M:=M) (h.below (bel1 w _)) (src_lit _ w.heap.size M.length c M rfl (heap_alloc_new w _)) hl (by simp;omega)
 exact⟨v',w',h1,h2,((Below.refl B w).alloc hB _).trans h3⟩
theorem pairN_le (s:ByteArray) (a:Nat) (ha:a<=s.size):(pairN s a).2<=s.size:=by
 unfold pairN
 split
 ·exact ha
 ·split
  ·exact ha
  ·split
   ·show a+1<=_;omega
   ·split
    ·show a+1<=_;omega
    ·show a+2<=_;omega
theorem pairN_le2 (s:ByteArray) (a:Nat):(pairN s a).2<=a+2:=by
 unfold pairN
 split
 ·show a<=_;omega
 ·split
  ·show a<=_;omega
  ·split
   ·show a+1<=_;omega
   ·split
    ·show a+1<=_;omega
    ·show a+2<=_;omega
def unhF (s:ByteArray):Nat->Nat->List Nat->List Nat×Nat×Nat
 | 0,_,acc=>(acc,0,0)
 | n+1,a,acc=>if s.size<=a then (acc,0,0) else if (pairN s a).2<a+2 then ([],1,(pairN s a).2) else unhF s n (a+2) (acc++[(pairN s a).1])
def unhN (s:ByteArray):List Nat×Nat×Nat:=unhF s (s.size+1) 0 []
theorem unhF_more (s:ByteArray):∀ n a acc,s.size<n+a->∀ m,s.size<m+a->unhF s n a acc=unhF s m a acc
 | 0,a,acc,hn,0,hm=>rfl
 | 0,a,acc,hn,m+1,hm=>by simp only[unhF];rw[if_pos (by omega)]
 | n+1,a,acc,hn,0,hm=>by simp only[unhF];rw[if_pos (by omega)]
 | n+1,a,acc,hn,m+1,hm=>by
  simp only[unhF]
  split
  ·rfl
  ·split
   ·rfl
   ·exact unhF_more s n _ _ (by omega) m (by omega)
theorem unh_step (s:ByteArray) (a:Nat) (acc:List Nat) (ha:a<s.size):unhF s (s.size+1) a acc=if (pairN s a).2<a+2 then ([],1,(pairN s a).2) else unhF s (s.size+1) (a+2) (acc++[(pairN s a).1]):=by
 rw[unhF,if_neg (by omega)]
 split
 ·rfl
 ·exact unhF_more s _ _ _ (by omega) _ (by omega)
theorem unh_end (s:ByteArray) (a:Nat) (acc:List Nat) (ha:s.size<=a):unhF s (s.size+1) a acc=(acc,0,0):=by rw[unhF,if_pos ha]
theorem ret_tri2 {a b:ByteArray} {c d e f:Int} (h1:a=b) (h2:c=d) (h3:e=f):Ending.returned (.tuple #[.string a,.int .i64 c,.int .i64 e]) = .returned (.tuple #[.string b,.int .i64 d,.int .i64 f]):=by rw[h1,h2,h3]
theorem Unhex_any (s:ByteArray) (w:World) (hs:s.size<=70368744177664):Calls Tryz.prog 13 #[.string s] w fun e w'=>e = .returned (.tuple #[.string (sOf (unhN s).1),.int .i64 ((unhN s).2.1:Nat),.int .i64 ((unhN s).2.2:Nat)])/\Below w.heap.size w w':=by
 obtain⟨wm,hmk,hbm,hbel⟩:=make_buf w (s.size / 2) ((s.size:Int) / 2) (by simp) (by omega)
 go_enter Tryz.func13,Tryz.ntmps13
 go_wp2
 go_loopw [5,6] (fun v i wr=>∃ k L,i = .int .i64 (k:Nat)/\k<=s.size+1/\L.length<=k/\Buf wr w.heap.size v L/\unhF s (s.size+1) k L=unhN s/\Below w.heap.size w wr) (fun _ i _=>s.size+2-(intOf i).toNat)
 case atStart=>exact⟨0,[],rfl,Nat.zero_le _,Nat.zero_le _,hbm,rfl,hbel⟩
 case round =>
  obtain⟨k,L,rfl,hk,hL,hB,hq,HB⟩:=hrel
  by_cases hlt:k<s.size
  ·rw[unh_step s k L hlt] at hq
   have h2:=pairN_le2 s k
   have hin:=pairN_le s k (by omega)
   by_cases hp:(pairN s k).2<k+2
   ·rw[if_pos hp] at hq
    have d:decide (((pairN s k).2:Int)<(k:Int)+2)=true:=by simp;omega
    go_wp2_with (go_at_call 28;refine(hexPair_any s k _ (by omega)).mono ?_;rintro e w1 ⟨rfl,hw1⟩;subst w1)
    rw[<- hq]
    exact bodyPost_ret (v:=.tuple #[.string ⟨#[]⟩,.int .i64 1,.int .i64 (((pairN s k).2:Nat):Int)]) (by simp[results,Tryz.results13,go_sem]) rfl ⟨ret_tri2 rfl rfl rfl,HB⟩
   ·rw[if_neg hp] at hq
    have hp5:Go.RowKit.Hid ((pairN s k).2=k+2):=(by show (pairN s k).2=k+2;omega)
    have d:decide (((pairN s k).2:Int)<(k:Int)+2)=false:=by simp;omega
    have hk2:k+2<=s.size:=by have:=hp5.out;omega
    obtain⟨v3,w3,hrun3,hb3,hbel3⟩:=hB.lit [(pairN s k).1] 1 1 rfl (by simp;omega) HB.size
    have hrun3:∀ ty,(Builtin.append_ #[29,29] ty #[u5,.slice (some ⟨wr.heap.size,0,none⟩) 1 1]).run Tryz.prog (wr.alloc (.cells #[.int .u8 ((pairN s k).1:Nat)] 5)) = .ok v3 w3:=hrun3
    clear h2 hin hp
    go_wp2_with (first|(go_at_call 28;refine(hexPair_any s k _ (by omega)).mono ?_;rintro e w1 ⟨rfl,hw1⟩;subst w1)|(at_builtin;refine(wpList_append_ex (by rfl) _ _ _ _ (by rfl) _ _ (by rfl) (by rfl) (fun a b=>a=v3/\b=w3) ⟨v3,w3,hrun3,rfl,rfl⟩ ?_);rintro _ _ ⟨rfl,rfl⟩))
    go_roundw
    case rel=>exact⟨k+2,L++[(pairN s k).1],by go_num,by omega,by simp;omega,hb3,hq,HB.trans hbel3⟩
    case measure=>simp[intOf];omega
  ·rw[unh_end s k L (by omega)] at hq
   have hcv:=hB.conv
   go_wp2
   rw[<- hq]
   exact bodyPost_ret (v:=.tuple #[.string (sOf L),.int .i64 0,.int .i64 0]) (by simp[results,Tryz.results13,go_sem]) rfl ⟨ret_tri2 rfl rfl rfl,HB⟩
def wrI (c:Nat):Int:=match worth c with|some d=>(d:Int)|none=>-1
theorem rworth (c:Nat) (hc:c<256) (w:World):Calls Tryz.prog 43 #[.int .u8 (c:Int),.bool true] w fun e w'=>e = .returned (.int .i64 (wrI c))/\w'=w:=by
 have:(c<48)\/(48<=c/\c<=57)\/(58<=c/\c<=64)\/(65<=c/\c<=70)\/(71<=c/\c<=96)\/(97<=c/\c<=102)\/103<=c:=by omega
 rcases this with h|h|h|h|h|h|h
 ·have g:wrI c = -1:=by unfold wrI worth;rw[if_neg (by omega),if_neg (by omega),if_neg (by omega)]
  rw[g]
  have d1:decide (48<=(c:Int))=false:=by simp;omega
  have d3:decide (97<=(c:Int))=false:=by simp;omega
  have d5:decide (65<=(c:Int))=false:=by simp;omega
  clear g h
  go_enter Tryz.func43,Tryz.ntmps43
  go_wp2
  go_ret
  exact⟨rfl,rfl⟩
 ·have g:wrI c=(c:Int)-48:=by unfold wrI worth;rw[if_pos (by omega)];simp only;omega
  rw[g]
  have d1:decide (48<=(c:Int))=true:=by simp;omega
  have d2:decide ((c:Int)<=57)=true:=by simp;omega
  have sb:IntKind.u8.wrap ((c:Int)-48)=(c:Int)-48:=by rw[IntKind.wrap_u8'];omega
  clear g
  go_enter Tryz.func43,Tryz.ntmps43
  go_wp2
  go_ret
  exact⟨rfl,rfl⟩
 ·have g:wrI c = -1:=by unfold wrI worth;rw[if_neg (by omega),if_neg (by omega),if_neg (by omega)]
  rw[g]
  have d1:decide (48<=(c:Int))=true:=by simp;omega
  have d2:decide ((c:Int)<=57)=false:=by simp;omega
  have d3:decide (97<=(c:Int))=false:=by simp;omega
  have d5:decide (65<=(c:Int))=false:=by simp;omega
  clear g h
  go_enter Tryz.func43,Tryz.ntmps43
  go_wp2
  go_ret
  exact⟨rfl,rfl⟩
 ·have g:wrI c=(c:Int)-65+10:=by unfold wrI worth;rw[if_neg (by omega),if_neg (by omega),if_pos (by omega)];simp only;omega
  rw[g]
  have d1:decide (48<=(c:Int))=true:=by simp;omega
  have d2:decide ((c:Int)<=57)=false:=by simp;omega
  have d3:decide (97<=(c:Int))=false:=by simp;omega
  have d5:decide (65<=(c:Int))=true:=by simp;omega
  have d6:decide ((c:Int)<=70)=true:=by simp;omega
  clear g
  go_enter Tryz.func43,Tryz.ntmps43
  go_wp2
  go_ret
  exact⟨rfl,rfl⟩
 ·have g:wrI c = -1:=by unfold wrI worth;rw[if_neg (by omega),if_neg (by omega),if_neg (by omega)]
  rw[g]
  have d1:decide (48<=(c:Int))=true:=by simp;omega
  have d2:decide ((c:Int)<=57)=false:=by simp;omega
  have d3:decide (97<=(c:Int))=false:=by simp;omega
  have d5:decide (65<=(c:Int))=true:=by simp;omega
  have d6:decide ((c:Int)<=70)=false:=by simp;omega
  clear g h
  go_enter Tryz.func43,Tryz.ntmps43
  go_wp2
  go_ret
  exact⟨rfl,rfl⟩
 ·have g:wrI c=(c:Int)-97+10:=by unfold wrI worth;rw[if_neg (by omega),if_pos (by omega)];simp only;omega
  rw[g]
  have d1:decide (48<=(c:Int))=true:=by simp;omega
  have d2:decide ((c:Int)<=57)=false:=by simp;omega
  have d3:decide (97<=(c:Int))=true:=by simp;omega
  have d4:decide ((c:Int)<=102)=true:=by simp;omega
  clear g
  go_enter Tryz.func43,Tryz.ntmps43
  go_wp2
  go_ret
  exact⟨rfl,rfl⟩
 ·have g:wrI c = -1:=by unfold wrI worth;rw[if_neg (by omega),if_neg (by omega),if_neg (by omega)]
  rw[g]
  have d1:decide (48<=(c:Int))=true:=by simp;omega
  have d2:decide ((c:Int)<=57)=false:=by simp;omega
  have d3:decide (97<=(c:Int))=true:=by simp;omega
  have d4:decide ((c:Int)<=102)=false:=by simp;omega
  have d5:decide (65<=(c:Int))=true:=by simp;omega
  have d6:decide ((c:Int)<=70)=false:=by simp;omega
  clear g h
  go_enter Tryz.func43,Tryz.ntmps43
  go_wp2
  go_ret
  exact⟨rfl,rfl⟩
theorem rret8 {a b:Int} (h:a=b):Ending.returned (.int .u8 a) = .returned (.int .u8 b):=by rw[h]
theorem rsmall (n:Nat) (hn:n<16) (w:World):Calls Tryz.prog 44 #[.int .u8 (n:Int)] w fun e w'=>e = .returned (.int .u8 ((if n<10 then 48+n else 87+n:Nat):Int))/\w'=w:=by
 by_cases h:n<10
 ·rw[if_pos h]
  have d1:decide ((n:Int)<10)=true:=by simp;omega
  go_enter Tryz.func44,Tryz.ntmps44
  go_wp2
  go_ret
  refine⟨rret8 ?_,rfl⟩
  first|omega|(simp only[IntKind.wrap_u8'];omega)
 ·rw[if_neg h]
  have d1:decide ((n:Int)<10)=false:=by simp;omega
  go_enter Tryz.func44,Tryz.ntmps44
  go_wp2
  go_ret
  refine⟨rret8 ?_,rfl⟩
  first|omega|(simp only[IntKind.wrap_u8'];omega)
theorem step_call_ex {P:Program} {w:World} {ops:Array Oper} {o:Oper} {a:Act} {K:Act->World->Prop} {Q:Exit->Act->World->Prop} {E:Prop} (hgd:o.guard=none) (f:FuncId) (x:Array Operand) (tx:Array TypeId)
  (ho:o.op = .call { callee:=.value (.func f),args:=x,argTypes:=tx }) (hen:∀ ag w,(callFunc f ag).run P w = .ok (.enter f ag) w) (xv:Array Value) (hx:x.map a.eval=xv) (Post:Value->World->Prop)
  (hc:Calls P f xv w fun e w'=>∃ v,e = .returned v/\Post v w') (h:∀ v w',Post v w'->K (a.put o.dst v) w'):if Region.wanted o (yielded ops a.tmps)=true then Oper.wp P o a w K Q else E:=by
 have hw:Region.wanted o (yielded ops a.tmps)=true:=by simp[Region.wanted,hgd]
 rw[if_pos hw]
 unfold Oper.wp execOp
 have hf:a.eval (.func f) = .func (.func f) #[] #[]:=rfl
 simp only[ho,resolve,invoke,Sem.run_bind,hx,hf]
 simp[Deferred.ofValue,hen,Oper.upon_enter]
 refine hc.mono ?_
 rintro e w' ⟨v,rfl,hp⟩
 exact h v w' hp
theorem step_call1 {P:Program} {w:World} {ops:Array Oper} {o:Oper} {a:Act} {K:Act->World->Prop} {Q:Exit->Act->World->Prop} {E:Prop} (hgd:o.guard=none) (f:FuncId) (x:Operand) (tx:Array TypeId)
  (ho:o.op = .call { callee:=.value (.func f),args:=#[x],argTypes:=tx }) (hen:∀ ag w,(callFunc f ag).run P w = .ok (.enter f ag) w) (xv:Value) (hx:a.eval x=xv) (Post:Value->World->Prop)
  (hc:Calls P f #[xv] w fun e w'=>∃ v,e = .returned v/\Post v w') (h:∀ v w',Post v w'->K (a.put o.dst v) w'):if Region.wanted o (yielded ops a.tmps)=true then Oper.wp P o a w K Q else E :=
 step_call_ex hgd f #[x] tx ho hen #[xv] (by simp[hx]) Post hc h
theorem step_call2 {P:Program} {w:World} {ops:Array Oper} {o:Oper} {a:Act} {K:Act->World->Prop} {Q:Exit->Act->World->Prop} {E:Prop} (hgd:o.guard=none) (f:FuncId) (x y:Operand) (tx:Array TypeId)
  (ho:o.op = .call { callee:=.value (.func f),args:=#[x,y],argTypes:=tx }) (hen:∀ ag w,(callFunc f ag).run P w = .ok (.enter f ag) w) (xv yv:Value) (hx:a.eval x=xv) (hy:a.eval y=yv) (Post:Value->World->Prop)
  (hc:Calls P f #[xv,yv] w fun e w'=>∃ v,e = .returned v/\Post v w') (h:∀ v w',Post v w'->K (a.put o.dst v) w'):if Region.wanted o (yielded ops a.tmps)=true then Oper.wp P o a w K Q else E :=
 step_call_ex hgd f #[x,y] tx ho hen #[xv,yv] (by simp[hx,hy]) Post hc h
theorem ent_small:∀ ag w,(callFunc 44 ag).run Tryz.prog w = .ok (.enter 44 ag) w:=enters_of Tryz.func44 (by kernel_rfl) rfl
theorem rHex (s:ByteArray) (w:World) (hs:s.size<=35184372088832):Calls Tryz.prog 26 #[.string s] w fun e w'=>e = .returned (.string (sOf (hexL (lOf s))))/\Below w.heap.size w w':=by
 go_enter Tryz.func26,Tryz.ntmps26
 go_wp2
 go_loopw [3,4] (fun v i wr=>∃ k:Nat,k<=s.size/\i = .int .i64 k/\Buf wr w.heap.size v (hexL ((lOf s).take k))/\Below w.heap.size w wr) (fun _ i _=>s.size-(intOf i).toNat)
 case atStart=>exact⟨0,Nat.zero_le _,rfl,Buf.nil _ _,Below.refl _ _⟩
 case round =>
  obtain⟨k,hk,rfl,hB,HB⟩:=hrel
  by_cases hlt:k<s.size
  ·obtain⟨c,hcx⟩:∃ c,Go.RowKit.Hid (c=ch s k):=⟨_,rfl⟩
   have ix:∀ w:World,(Instr.index 9 (.string s) (.int .i64 (k:Int))).run Tryz.prog w = .ok (.int .u8 (c:Int)) w:=fun w=>by rw[hcx.out];exact idx (w:=w) s k hlt .i64
   have hc:c<256:=by rw[hcx.out];exact ch_lt s k
   have hlen:(hexL ((lOf s).take k)).length+2<=140737488355328:=by rw[hexL_length,List.length_take,lOf_length];omega
   have s1:∀ w,Calls Tryz.prog 44 #[.int .u8 (IntKind.u8.wrap ((c:Int) / 16))] w fun e w'=>∃ v,e = .returned v/\(v = .int .u8 (hexc (c / 16):Nat)/\w'=w):=fun w=>by
    have:=rsmall (c / 16) (by omega) w
    rw[show ((c / 16:Nat):Int)=IntKind.u8.wrap ((c:Int) / 16) by rw[IntKind.wrap_u8'];omega] at this
    exact this.mono fun e w' ⟨h1,h2⟩=>⟨_,h1,rfl,h2⟩
   have s2:∀ w,Calls Tryz.prog 44 #[.int .u8 ((c:Int).tmod 16)] w fun e w'=>∃ v,e = .returned v/\(v = .int .u8 (hexc (c % 16):Nat)/\w'=w):=fun w=>by
    have:=rsmall (c % 16) (by omega) w
    rw[show ((c % 16:Nat):Int)=(c:Int).tmod 16 by rw[Int.tmod_eq_emod_of_nonneg (by omega)];omega] at this
    exact this.mono fun e w' ⟨h1,h2⟩=>⟨_,h1,rfl,h2⟩
   obtain⟨v',w',hrun,hbuf,hbel⟩:=Buf.append (w:=(wr.alloc (.cells #[.int .u8 (hexc (c / 16):Nat),.int .u8 (hexc (c % 16):Nat)] 5)).drew) (B:=w.heap.size) (v:=u3) (L:=hexL ((lOf s).take k)) (tx:=29) (M:=[hexc (c / 16),hexc (c % 16)])
    (hB.below (bel1 wr _).drew) (src_lit _ wr.heap.size 2 2 _ rfl (heap_alloc_new wr _)) hlen (by have:=HB.size;simp;omega)
   have HB2:Go.RowKit.Hid (Below w.heap.size w w'):=HB.trans ((((Below.refl _ wr).alloc HB.size _).drew).trans hbel)
   clear hB hbel hlen
   go_wp2_with fail
   go_region_law (first
    | (refine step_append_ex ?_ (.tmp 11) (.tmp 22) _ _ ?_ _ _ ?_ ?_ (fun a b=>a=v'/\b=w') ⟨v',w',hrun,rfl,rfl⟩ ?_;rfl;rfl;rfl;rfl;rintro _ _ ⟨rfl,rfl⟩)
    | (refine step_call1 ?_ _ (.tmp 15) #[5] ?_ ent_small _ ?_ _ (s1 _) ?_;rfl;rfl;rfl;rintro _ _ ⟨rfl,rfl⟩)
    | (refine step_call1 ?_ _ (.tmp 20) #[5] ?_ ent_small _ ?_ _ (s2 _) ?_;rfl;rfl;rfl;rintro _ _ ⟨rfl,rfl⟩))
   all_goals
    go_wp2_with fail
    go_roundw
    case rel =>
     refine⟨k+1,by omega,by go_num,?_,HB2.out⟩
     rw[take_succ_ch s k hlt,<- hcx.out]
     unfold hexL
     rw[List.flatMap_append]
     exact hbuf
    case measure=>simp[intOf];omega
  ·obtain rfl:k=s.size:=by omega
   have hcv:=hB.conv
   rw[take_all] at hcv
   go_wp2
   go_ret
   exact⟨rfl,HB⟩
theorem pair_both (s:ByteArray) (a d e:Nat) (h:a+1<s.size) (h1:worth (ch s a)=some d) (h2:worth (ch s (a+1))=some e):pairN s a=(d*16+e,a+2):=by
 unfold pairN
 rw[if_neg (by omega),h1]
 simp only
 rw[if_neg (by omega),h2]
theorem unh_bad (s:ByteArray) (i:Nat) (hi:i<s.size) (hn:worth (ch s i)=none) (hall:∀ j,j<i->worth (ch s j)≠none):∀ n a acc,a+n=i->unhF s (s.size+1) a acc=([],1,i)
 | 0,a,acc,h=>by
  obtain rfl:a=i:=by omega
  have hp:pairN s a=(0,a):=by unfold pairN;rw[if_neg (by omega),hn]
  rw[unh_step s a acc hi,hp,if_pos (by simp only;omega)]
 | 1,a,acc,h=>by
  obtain⟨d,hd⟩:=Option.ne_none_iff_exists'.1 (hall a (by omega))
  obtain rfl:a+1=i:=h
  have hp:pairN s a=(d,a+1):=by unfold pairN;rw[if_neg (by omega),hd];simp only;rw[if_neg (by omega),hn]
  rw[unh_step s a acc (by omega),hp,if_pos (by simp only;omega)]
 | n+2,a,acc,h=>by
  obtain⟨d,hd⟩:=Option.ne_none_iff_exists'.1 (hall a (by omega))
  obtain⟨e,he⟩:=Option.ne_none_iff_exists'.1 (hall (a+1) (by omega))
  rw[unh_step s a acc (by omega),pair_both s a d e (by omega) hd he,if_neg (by simp only;omega)]
  exact unh_bad s i hi hn hall n (a+2) _ (by omega)
theorem unh_odd (s:ByteArray) (hall:∀ j,j<s.size->worth (ch s j)≠none):∀ n a acc,a+(2*n+1)=s.size->unhF s (s.size+1) a acc=([],1,s.size)
 | 0,a,acc,h=>by
  obtain⟨d,hd⟩:=Option.ne_none_iff_exists'.1 (hall a (by omega))
  have hp:pairN s a=(d,a+1):=by unfold pairN;rw[if_neg (by omega),hd];simp only;rw[if_pos (by omega)]
  rw[unh_step s a acc (by omega),hp,if_pos (by simp only;omega)]
  simp only
  rw[show a+1=s.size by omega]
 | n+1,a,acc,h=>by
  obtain⟨d,hd⟩:=Option.ne_none_iff_exists'.1 (hall a (by omega))
  obtain⟨e,he⟩:=Option.ne_none_iff_exists'.1 (hall (a+1) (by omega))
  rw[unh_step s a acc (by omega),pair_both s a d e (by omega) hd he,if_neg (by simp only;omega)]
  exact unh_odd s hall n (a+2) _ (by omega)
theorem wrI_some {c d:Nat} (h:worth c=some d):wrI c=(d:Int):=by unfold wrI;rw[h]
theorem wrI_none {c:Nat} (h:worth c=none):wrI c = -1:=by unfold wrI;rw[h]
theorem ent_worth:∀ ag w,(callFunc 43 ag).run Tryz.prog w = .ok (.enter 43 ag) w:=enters_of Tryz.func43 (by kernel_rfl) rfl
theorem rret3 {a b:ByteArray} {c d e f:Int} (h1:a=b) (h2:c=d) (h3:e=f):Ending.returned (.tuple #[.string a,.int .i64 c,.int .i64 e]) = .returned (.tuple #[.string b,.int .i64 d,.int .i64 f]):=by rw[h1,h2,h3]
theorem rUnhex (s:ByteArray) (w:World) (hs:s.size<=70368744177664):Calls Tryz.prog 25 #[.string s] w fun e w'=>e = .returned (.tuple #[.string (sOf (unhN s).1),.int .i64 ((unhN s).2.1:Nat),.int .i64 ((unhN s).2.2:Nat)])/\Below w.heap.size w w':=by
 go_enter Tryz.func25,Tryz.ntmps25
 go_wp2_with fail
 go_loop [5] (fun v=>∃ i:Nat,i<=s.size/\v = .int .i64 (i:Int)/\Go.RowKit.Hid (∀ j,j<i->worth (ch s j)≠none)) (fun v=>s.size-(intOf v).toNat)
 case atStart=>exact⟨0,Nat.zero_le _,rfl,fun j hj=>absurd hj (Nat.not_lt_zero j)⟩
 case round =>
  obtain⟨i,hi,rfl,hall⟩:=hrel
  by_cases hlt:i<s.size
  ·obtain⟨c,hc⟩:∃ c,Go.RowKit.Hid (c=ch s i):=⟨_,rfl⟩
   have ix:∀ w:World,(Instr.index 9 (.string s) (.int .i64 (i:Int))).run Tryz.prog w = .ok (.int .u8 (c:Int)) w:=fun w=>by rw[hc.out];exact idx (w:=w) s i hlt .i64
   have hc2:c<256:=by rw[hc.out];exact ch_lt s i
   cases hw:worth c with
   | none =>
    have hW:=fun w=>rworth c hc2 w
    rw[wrI_none hw] at hW
    have hg:Go.RowKit.Hid (unhN s=([],1,i)):=unh_bad s i hlt (by rw[<- hc.out];exact hw) hall.out i 0 [] (by omega)
    clear hw
    go_wp2_with (go_at_call 43;refine(hW _).mono ?_;rintro e w1 ⟨rfl,hw1⟩;subst w1)
    go_ret3
    exact⟨rret3 (by rw[hg.out];rfl) (by rw[hg.out];rfl) (by rw[hg.out]),Below.refl _ _⟩
   | some d =>
    have hW:=fun w=>rworth c hc2 w
    rw[wrI_some hw] at hW
    have hw':Go.RowKit.Hid (worth c=some d):=hw
    have d0:decide ((d:Int)<0)=false:=by simp
    clear hw
    go_wp2_with (go_at_call 43;refine(hW _).mono ?_;rintro e w1 ⟨rfl,hw1⟩;subst w1)
    go_round
    case rel=>exact⟨i+1,by omega,by go_num,fun j hj=>by
     by_cases h:j=i
     ·rw[h,<- hc.out,hw'.out];simp
     ·exact hall.out j (by omega)⟩
    case measure=>simp[intOf];omega
  ·obtain rfl:i=s.size:=by omega
   by_cases hodd:s.size % 2=1
   ·have e2:((s.size:Int) % 2==1)=true:=by simp;omega
    have hg:Go.RowKit.Hid (unhN s=([],1,s.size)):=unh_odd s hall.out (s.size / 2) 0 [] (by omega)
    have hodd:Go.RowKit.Hid (s.size % 2=1):=hodd
    go_wp2_with fail
    go_ret3
    exact⟨rret3 (by rw[hg.out];rfl) (by rw[hg.out];rfl) (by rw[hg.out]),Below.refl _ _⟩
   ·have e2:((s.size:Int) % 2==1)=false:=by simp;omega
    have hodd:Go.RowKit.Hid (¬ s.size % 2=1):=hodd
    go_wp2_with fail
    go_loopw [6,7] (fun v i wr=>∃ (k:Nat) (L:List Nat),k<=s.size/\i = .int .i64 (k:Int)/\Go.RowKit.Hid (k % 2=0/\unhF s (s.size+1) k L=unhN s)/\L.length<=k/\Buf wr w.heap.size v L/\Below w.heap.size w wr) (fun _ i _=>s.size-(intOf i).toNat)
    case atStart=>exact⟨0,[],Nat.zero_le _,rfl,⟨rfl,rfl⟩,Nat.le_refl _,Buf.nil _ _,Below.refl _ _⟩
    case round =>
     obtain⟨k,L,hk,rfl,hu,hL,hB,HB⟩:=hrel
     by_cases hlt:k<s.size
     ·have hk1:k+1<s.size:=by have:=hu.out.1;have:=hodd.out;omega
      obtain⟨d,hd⟩:=Option.ne_none_iff_exists'.1 (hall.out k (by omega))
      obtain⟨e,he⟩:=Option.ne_none_iff_exists'.1 (hall.out (k+1) (by omega))
      have hd16:=worth_lt hd
      have he16:=worth_lt he
      have hst:Go.RowKit.Hid (unhF s (s.size+1) (k+2) (L++[d*16+e])=unhN s):=by
       show _=_
       rw[<- hu.out.2,unh_step s k L hlt,pair_both s k d e hk1 hd he,if_neg (by simp only;omega)]
      obtain⟨c,hc⟩:∃ c,Go.RowKit.Hid (c=ch s k):=⟨_,rfl⟩
      obtain⟨c2,hc2⟩:∃ c2,Go.RowKit.Hid (c2=ch s (k+1)):=⟨_,rfl⟩
      have i1:∀ w:World,(Instr.index 9 (.string s) (.int .i64 (k:Int))).run Tryz.prog w = .ok (.int .u8 (c:Int)) w:=fun w=>by rw[hc.out];exact idx (w:=w) s k hlt .i64
      have i2:∀ w:World,(Instr.index 9 (.string s) (.int .i64 (IntKind.i64.wrap ((k:Int)+1)))).run Tryz.prog w = .ok (.int .u8 (c2:Int)) w:=fun w=>by
       have:=idx (w:=w) s (k+1) hk1 .i64
       rw[hc2.out,show IntKind.i64.wrap ((k:Int)+1)=((k+1:Nat):Int) by rw[IntKind.wrap_i64];omega]
       exact this
      have s1:∀ w,Calls Tryz.prog 43 #[.int .u8 (c:Int),.bool true] w fun r w'=>∃ v,r = .returned v/\(v = .int .i64 (d:Int)/\w'=w):=fun w=>by
       have:=rworth c (by rw[hc.out];exact ch_lt s k) w
       rw[wrI_some (by rw[hc.out];exact hd)] at this
       exact this.mono fun e w' ⟨h1,h2⟩=>⟨_,h1,rfl,h2⟩
      have s2:∀ w,Calls Tryz.prog 43 #[.int .u8 (c2:Int),.bool true] w fun r w'=>∃ v,r = .returned v/\(v = .int .i64 (e:Int)/\w'=w):=fun w=>by
       have:=rworth c2 (by rw[hc2.out];exact ch_lt s (k+1)) w
       rw[wrI_some (by rw[hc2.out];exact he)] at this
       exact this.mono fun e w' ⟨h1,h2⟩=>⟨_,h1,rfl,h2⟩
      obtain⟨v',w',hrun,hbuf,hbel⟩:=Buf.append (w:=(wr.alloc (.cells #[.int .u8 ((d*16+e:Nat):Int)] 5)).drew) (B:=w.heap.size) (v:=u6) (L:=L) (tx:=29) (M:=[d*16+e])
       (hB.below (bel1 wr _).drew) (src_lit _ wr.heap.size 1 1 _ rfl (heap_alloc_new wr _)) (by simp;omega) (by have:=HB.size;simp;omega)
      have HB2:Go.RowKit.Hid (Below w.heap.size w w'):=HB.trans ((((Below.refl _ wr).alloc HB.size _).drew).trans hbel)
      have hv:Go.RowKit.Hid (((d*16+e:Nat):Int)=IntKind.u8.wrap (IntKind.i64.wrap (IntKind.i64.wrap (16*(d:Int))+(e:Int)))):=by show _=_;rw[IntKind.wrap_u8',IntKind.wrap_i64,IntKind.wrap_i64];omega
      rw[hv.out] at hrun
      have hu':Go.RowKit.Hid (k % 2=0):=hu.out.1
      clear hB hbel hd he hu
      go_wp2_with fail
      go_region_law (first
       | (refine step_append_ex ?_ (.tmp 32) (.tmp 45) _ _ ?_ _ _ ?_ ?_ (fun a b=>a=v'/\b=w') ⟨v',w',hrun,rfl,rfl⟩ ?_;rfl;rfl;rfl;rfl;rintro _ _ ⟨rfl,rfl⟩)
       | (refine step_call2 ?_ _ (.tmp 35) (.const (.bool true)) #[5,4] ?_ ent_worth _ _ ?_ ?_ _ (s1 _) ?_;rfl;rfl;rfl;rfl;rintro _ _ ⟨rfl,rfl⟩)
       | (refine step_call2 ?_ _ (.tmp 41) (.const (.bool true)) #[5,4] ?_ ent_worth _ _ ?_ ?_ _ (s2 _) ?_;rfl;rfl;rfl;rfl;rintro _ _ ⟨rfl,rfl⟩))
      all_goals
       go_wp2_with fail
       go_roundw
       case rel=>exact⟨k+2,L++[d*16+e],by omega,by go_num,⟨by have:=hu'.out;omega,hst.out⟩,by simp;omega,hbuf,HB2.out⟩
       case measure=>simp[intOf];omega
     ·obtain rfl:k=s.size:=by omega
      have hg:Go.RowKit.Hid (unhN s=(L,0,0)):=by show _=_;rw[<- hu.out.2,unh_end s s.size L (Nat.le_refl _)]
      have hcv:=hB.conv
      go_wp2_with fail
      go_ret3
      exact⟨rret3 (by rw[hg.out]) (by rw[hg.out];rfl) (by rw[hg.out];rfl),HB⟩
open Go.Shelf Go.Maps
def uSz (s:ByteArray):ByteArray:=sOf (unhN s).1
def uEz (s:ByteArray):Int:=((unhN s).2.1:Nat)
def uAz (s:ByteArray):Int:=((unhN s).2.2:Nat)
def hXz (s:ByteArray):ByteArray:=sOf (hexL (lOf s))
theorem unhF_len (s:ByteArray):∀ n a acc,(unhF s n a acc).1.length<=acc.length+(s.size-a)
 | 0,a,acc=>by rw[unhF];exact Nat.le_add_right _ _
 | n+1,a,acc=>by
  rw[unhF]
  split
  ·exact Nat.le_add_right _ _
  ·split
   ·exact Nat.zero_le _
   ·have:=unhF_len s n (a+2) (acc++[(pairN s a).1])
    rw[List.length_append,List.length_singleton] at this
    omega
theorem uSz_le (s:ByteArray):(uSz s).size<=s.size:=by
 unfold uSz
 rw[sOf_size]
 have:=unhF_len s (s.size+1) 0 []
 unfold unhN
 simpa using this
theorem cUp (x:ByteArray) (W:World) (h:x.size<=1048576):Calls Tryz.prog 13 #[.string x] W fun e w'=>e = .returned (.tuple #[.string (uSz x),.int .i64 (uEz x),.int .i64 (uAz x)])/\Below W.heap.size W w':=Unhex_any x W (by omega)
theorem cHp (x:ByteArray) (W:World) (h:x.size<=1048576):Calls Tryz.prog 14 #[.string x] W fun e w'=>e = .returned (.string (hXz x))/\Below W.heap.size W w':=Hex_any x W (by omega)
theorem cUr (x:ByteArray) (W:World) (h:x.size<=1048576):Calls Tryz.prog 25 #[.string x] W fun e w'=>e = .returned (.tuple #[.string (uSz x),.int .i64 (uEz x),.int .i64 (uAz x)])/\Below W.heap.size W w':=rUnhex x W (by omega)
theorem cHr (x:ByteArray) (W:World) (h:x.size<=1048576):Calls Tryz.prog 26 #[.string x] W fun e w'=>e = .returned (.string (hXz x))/\Below W.heap.size W w':=rHex x W (by omega)
abbrev spareR:ByteArray:=⟨#[115,112,97,114,101,32,114,111,111,109]⟩
theorem app_lines {W:World} {base:Nat} {v:Value} {ss:List ByteArray} (h:SRow W base v ss) (pp:Option Addr) (ls:List ByteArray) (cap:Nat) (hT:TxL W pp ls) (hl:ss.length+ls.length<=1000000000000) (hb:base<=W.heap.size) :
  ∃ v' w',(∀ ty,(Builtin.append_ #[22,22] ty #[v,.slice pp ls.length cap]).run Tryz.prog W = .ok v' w')/\(SRow w' base v' (ss++ls)/\Below base W w'):=by
 cases pp with
 | none =>
  have e:ls=[]:=by
   cases ls with
   | nil=>rfl
   | cons a r=>obtain⟨g,o,hx,_⟩:=hT 0 a rfl;cases hx
  subst e
  obtain⟨p2,c2,rfl,hc,-⟩:=h.shape
  obtain⟨i0,hi,hz⟩:=Option.map_eq_some_iff.1 infoStr
  exact⟨_,W,fun ty=>run_append_nothing W 22 22 ty 9 i0 Tryz.underlying22 hi p2 ss.length c2 hc _ (Src.ofNil W Tryz.underlying22 cap),by rw[List.append_nil];exact h,Below.refl _ _⟩
 | some ad =>
  obtain⟨v',w',h1,h2,h3,-⟩:=str_ap h ad ls cap (fun j u hu=>by
   obtain⟨g,o,hx,_,hc⟩:=hT j u hu
   cases hx
   have e:(⟨g,o,none⟩:Addr).add j=⟨g,o+j,none⟩:=by unfold Addr.add;simp
   rw[e]
   exact hc) hl hb
  exact⟨v',w',h1,h2,h3⟩
theorem TxL.below {w w':World} {p:Option Addr} {l:List ByteArray} (h:TxL w p l) (hb:Below w.heap.size w w'):TxL w' p l:=fun i x hx=>by
 obtain⟨g,o,e,h1,h2⟩:=h i x hx
 exact⟨g,o,e,Nat.lt_of_lt_of_le h1 hb.size,(hb.cell (p:=⟨g,o+i,none⟩) h1).trans h2⟩
theorem full_of {W:World} {base:Nat} {v:Value} {ls:List ByteArray} {x:ByteArray} (h:SRow W base v (ls++[x])):∃ g c,v = .slice (some ⟨g,0,none⟩) (ls.length+1) c/\ls.length+1<=c/\TxL W (some ⟨g,0,none⟩) ls/\g<W.heap.size/\W.cell? ⟨g,ls.length,none⟩=some (.string x):=by
 obtain⟨g,cp,hv,hc,hb,hg,hx⟩:=h.last
 obtain⟨pp,cp2,hv2,-,hs⟩:=h.shape
 rw[hv] at hv2
 injection hv2 with e1 e2 e3
 subst e1
 refine⟨g,cp,hv,hc,fun i y hy=>?_,hg,hx⟩
 have hi:=(List.getElem?_eq_some_iff.1 hy).1
 obtain⟨g2,e,h1,h2,h3⟩:=hs i y (by rw[List.getElem?_append_left hi];exact hy)
 cases e
 exact⟨_,0,rfl,h2,by rw[Nat.zero_add];exact h3⟩
theorem DumpReads_any (ls:List ByteArray) (pp:Option Addr) (cp:Nat) (w:World) (tb:DpTb w) (hT:TxL w pp ls) (hl:ls.length<=1048576) (hz:∀ x∈ls,x.size<=1048576) :
  Calls Tryz.prog 3 #[.slice pp ls.length cp] w fun e w'=>e = .returned (.bool true)/\Below w.heap.size w w':=by
 obtain⟨Z1,Z2,Z3,hZ⟩:∃ Z1 Z2 Z3,rdZ uSz uEz hXz ls ⟨#[]⟩ 0=(Z1,Z2,Z3):=⟨_,_,_,rfl⟩
 have cP:∀ W p c,Below w.heap.size w W->TxL W p ls->Calls Tryz.prog 4 #[.slice p ls.length c] W fun e w'=>e = .returned (.tuple #[.string Z1,.int .i64 Z2,.int .i64 Z3])/\Below W.heap.size W w':=fun W p c hW h=>by
  have:=read_any ls p c W (tb.below hW) h hl hz uSz uEz uAz hXz cUp cHp uSz_le
  rw[hZ] at this
  exact this
 have cR:∀ W,TxL W pp ls->Calls Tryz.prog 5 #[.slice pp ls.length cp] W fun e w'=>e = .returned (.tuple #[.string Z1,.int .i64 Z2,.int .i64 Z3])/\Below W.heap.size W w':=fun W h=>by
  have:=rread22 ls pp cp W h hl hz uSz uEz uAz hXz cUr cHr uSz_le
  rw[hZ] at this
  exact this
 clear hZ tb hz
 have a0:=app_lines (SRow.new w [] (by simp)) pp ls cp (hT.below (nbel w _)) (by simp;omega) (by rw[World.size_alloc];omega)
 obtain⟨v1,w1,r1,s1,b1⟩:=a0
 have k1:Below w.heap.size w w1:=(nbel w _).trans b1
 obtain⟨v2,w2,r2,s2,b2⟩:=one_ap spareR s1 (by simp;omega) k1.size
 have k2:Below w.heap.size w w2:=k1.trans b2
 rw[List.nil_append] at s2
 obtain⟨g,c,rfl,hc,hT2,hg,hx2⟩:=full_of s2
 have R1:Hid (∀ ty,(Builtin.append_ #[22,22] ty #[.slice (some ⟨w.heap.size,0,none⟩) 0 0,.slice pp ls.length cp]).run Tryz.prog (w.alloc (.cells #[] 9)) = .ok v1 w1):=⟨r1⟩
 have R2:Hid (∀ ty,(Builtin.append_ #[22,22] ty #[v1,.slice (some ⟨w1.heap.size,0,none⟩) 1 1]).run Tryz.prog (w1.alloc (.cells #[.string spareR] 9)) = .ok (.slice (some ⟨g,0,none⟩) (ls.length+1) c) w2):=⟨r2⟩
 clear r1 r2 s1 s2 b1 b2
 replace cP:Hid _:=⟨cP w2 (some ⟨g,0,none⟩) c k2 hT2⟩
 have X:Hid (TxL w pp ls/\Below w.heap.size w w2/\TxL w2 (some ⟨g,0,none⟩) ls/\g<w2.heap.size/\w2.cell? ⟨g,ls.length,none⟩=some (.string spareR)):=⟨hT,k2,hT2,hg,hx2⟩
 replace cR:=Hid.mk cR
 replace hl:=Hid.mk hl
 replace hc:ls.length<=c:=by omega
 clear hT k1 k2 hT2 hg hx2
 have F1:Hid (1=1):=⟨rfl⟩
 go_enter Tryz.func3,Tryz.ntmps3
 go_wp2_with (first
  | (clear F1;at_builtin;go_must (refine(ap_step (by rfl) _ _ _ _ (by rfl) _ _ (by rfl) (by rfl) (fun a b=>a=v1/\b=w1) ⟨v1,w1,R1.out,rfl,rfl⟩ ?_));rintro vq wq ⟨ev,eq⟩;obtain rfl:v1=vq:=ev.symm;obtain rfl:w1=wq:=eq.symm;clear R1)
  | (at_builtin;go_must (refine(ap_step (by rfl) _ _ _ _ (by rfl) _ _ (by rfl) (by rfl) (fun a b=>a = .slice (some ⟨g,0,none⟩) (ls.length+1) c/\b=w2) ⟨_,w2,R2.out,rfl,rfl⟩ ?_));rintro _ wq ⟨rfl,eq⟩;obtain rfl:w2=wq:=eq.symm;clear R2)
  | (go_at_call 4;refine cP.out.mono ?_;rintro _ w3 ⟨rfl,j3⟩;have cR3:=cR.out w3 (X.out.1.below (X.out.2.1.trans (j3.mono X.out.2.1.size)));clear cP cR)
  | (go_at_call 5;refine cR3.mono ?_;clear cR3;rintro _ w4 ⟨rfl,j4⟩;have j5:Below w2.heap.size w2 w4:=j3.trans (j4.mono j3.size);have k4:Below w.heap.size w w4:=X.out.2.1.trans (j5.mono X.out.2.1.size);have cS:=sameTexts_self ls (some ⟨g,0,none⟩) pp c cp w4 (X.out.2.2.1.below j5) (X.out.1.below k4) hl.out;have hm4:Hid (g<w4.heap.size/\w4.cell? ⟨g,ls.length,none⟩=some (.string spareR)/\Below w.heap.size w w4):=⟨Nat.lt_of_lt_of_le X.out.2.2.2.1 j5.size,(j5.cell (p:=⟨g,ls.length,none⟩) X.out.2.2.2.1).trans X.out.2.2.2.2,k4⟩;clear j3 j4 j5 k4 X)
  | (go_at_call 6;refine cS.mono ?_;clear cS;rintro _ w5 ⟨rfl,j5⟩;have hx5:w5.cell? ⟨g,ls.length,none⟩=some (.string spareR):=(j5.cell (p:=⟨g,ls.length,none⟩) hm4.out.1).trans hm4.out.2.1;have hm5:Hid (Below w.heap.size w w5):=⟨hm4.out.2.2.trans (j5.mono hm4.out.2.2.size)⟩;clear j5 hm4))
 go_ret
 exact⟨rfl,hm5.out⟩
end Go.Proofs.YtekpgklllfobfaaGreatDoor

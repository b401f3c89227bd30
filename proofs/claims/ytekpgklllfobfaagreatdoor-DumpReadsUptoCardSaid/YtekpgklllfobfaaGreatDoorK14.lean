import Derived.Test.YtekpgklllfobfaaGreatDoorK13
import Derived.Lib.AtoiErrMem
namespace Go.Proofs.YtekpgklllfobfaaGreatDoor
set_option maxRecDepth 1000000
set_option maxHeartbeats 16000000
open Go.ChangeShapes Go.WideShapes Go.ChangeAt Go.RowKit Go.Shelf Go.Maps
theorem IsB_keep {B b:Nat} {bs:List Value} {w w':World} (h:IsB B b bs w) (hb:Below w.heap.size w w'):IsB B b bs w':=by
 rcases h with ⟨h1,v,h2,h3,h4⟩|⟨h1,v,h2,h3,h4⟩
 ·exact .inl ⟨h1,v,(hb.block b (Array.getElem?_eq_some_iff.1 h2).1).trans h2,own_keep h3 hb,h4⟩
 ·exact .inr ⟨h1,v,(hb.block b (Array.getElem?_eq_some_iff.1 h2).1).trans h2,own_keep h3 hb,h4⟩
theorem bLen (B b:Nat) (bs:List Value) (w:World) (h:IsB B b bs w):Calls Tryz.prog 8 #[.pointer (some ⟨b,0,none⟩)] w fun e w'=>e = .returned (.int .i64 (bs.length:Int))/\w'=w:=by
 obtain⟨pv,cv,c1⟩:∃ pv cv,w.cell? ⟨b,1,none⟩=some (.slice pv bs.length cv):=by
  have key:∀ p,Lib.BuilderAt 31 5 B b p bs w->∃ pv cv,w.cell? ⟨b,1,none⟩=some (.slice pv bs.length cv):=fun p ⟨_,v,hbk,hown,_⟩=>by
   rcases hown.2 with ⟨hv,h0⟩|⟨g,cap,cur,hv,-⟩
   ·exact⟨none,0,by rw[cell_at hbk 1,hv,h0];rfl⟩
   ·exact⟨_,_,by rw[cell_at hbk 1,hv];rfl⟩
  rcases h with h|h
  ·exact key _ h
  ·exact key _ h
 clear h
 go_enter Tryz.func8,Tryz.ntmps8
 go_wp2_with fail
 go_ret
 exact⟨rfl,rfl⟩
theorem strCells_app (a x:ByteArray):Lib.strCells a++Lib.strCells x=Lib.strCells (a++x):=by
 unfold Lib.strCells
 rw[ByteArray.data_append,Array.toList_append,List.map_append]
theorem read_any (ls:List ByteArray) (pp:Option Addr) (cp:Nat) (w:World) (tb:DpTb w) (hT:TxL w pp ls) (hl:ls.length<=1048576) (hz:∀ x∈ls,x.size<=1048576) (uS:ByteArray->ByteArray) (uE uA:ByteArray->Int) (hX:ByteArray->ByteArray)
  (cU:∀ (x:ByteArray) (W:World),x.size<=1048576->Calls Tryz.prog 13 #[.string x] W fun e w'=>e = .returned (.tuple #[.string (uS x),.int .i64 (uE x),.int .i64 (uA x)])/\Below W.heap.size W w')
  (cH:∀ (x:ByteArray) (W:World),x.size<=1048576->Calls Tryz.prog 14 #[.string x] W fun e w'=>e = .returned (.string (hX x))/\Below W.heap.size W w') (hu:∀ x,(uS x).size<=x.size) :
  Calls Tryz.prog 4 #[.slice pp ls.length cp] w fun e w'=>e = .returned (.tuple #[.string (rdZ uS uE hX ls ⟨#[]⟩ 0).1,.int .i64 (rdZ uS uE hX ls ⟨#[]⟩ 0).2.1,.int .i64 (rdZ uS uE hX ls ⟨#[]⟩ 0).2.2])/\Below w.heap.size w w':=by
 have cL:Hid (∀ (l:ByteArray) (fr:Nat) (W:World),Below w.heap.size w W->l.size<=1048576->fr<=4611686018426339328->Calls Tryz.prog 7 #[.string l,.int .i64 (fr:Int)] W fun e w'=>∃ y,e = .returned (.tuple #[.string y,.bool (lnO uS uE hX l fr).isSome])/\(∀ x,lnO uS uE hX l fr=some x->y=x)/\Below W.heap.size W w'):=⟨fun l fr W hW h1 h2=>bytesOf_any l fr W (tb.below hW) h1 h2 uS uE uA hX cU cH hu⟩
 have hlz:Hid (∀ l x fr,lnO uS uE hX l fr=some x->x.size<=l.size):=⟨fun l x fr h=>lnO_size hu h⟩
 clear cU cH hu tb
 obtain⟨Z,hZ⟩:∃ Z,rdZ uS uE hX ls ⟨#[]⟩ 0=Z:=⟨_,rfl⟩
 rw[hZ]
 replace hZ:=Hid.mk hZ
 replace hz:=Hid.mk hz
 replace hT:=Hid.mk hT
 have H0:Hid (IsB w.heap.size w.heap.size (Lib.strCells ⟨#[]⟩) (w.alloc bdO)/\Below w.heap.size w (w.alloc bdO)):=⟨.inl ⟨Nat.le_refl _,_,heap_al _ _,World.ownsRow_nil _ _ _ 1,by simp[Value.ownBlock]⟩,bel1 _ _⟩
 generalize hW0:w.alloc bdO=W0 at H0
 simp only[bdO] at hW0
 go_enter Tryz.func4,Tryz.ntmps4
 go_wp2_with fail
 go_loopw [12] (fun q wr=>∃ (i:Nat) (a:ByteArray),q = .int .i64 (i:Int)/\i<=ls.length/\a.size<=i*1048576/\Hid (rdZ uS uE hX (ls.drop i) a i=Z)/\Hid (IsB w.heap.size w.heap.size (Lib.strCells a) wr/\Below w.heap.size w wr)) (fun q _=>ls.length-(RowKit.intOf q).toNat)
 case atStart=>exact⟨0,⟨#[]⟩,by go_num,Nat.zero_le _,Nat.zero_le _,hZ,H0⟩
 case round =>
  clear hZ H0 hW0
  obtain⟨i,a,rfl,hi,ha,hI,hB⟩:=hrel
  by_cases hlt:i<ls.length
  ·obtain⟨l,hx⟩:∃ l,ls[i]?=some l:=⟨ls[i],List.getElem?_eq_getElem hlt⟩
   have l1:decide ((i:Int)<(ls.length:Int))=true:=by simp;omega
   obtain⟨g,o,rfl,hg,k0⟩:=hT.out i l hx
   have k1:wr.cell? ⟨g,o+i,none⟩=some (.string l):=(hB.out.2.cell (p:=⟨g,o+i,none⟩) hg).trans k0
   have him:i*1048576<=1048576*1048576:=Nat.mul_le_mul_right _ (by omega)
   have hlsz:=hz.out l (List.mem_of_getElem? hx)
   have cl:=cL.out l a.size wr hB.out.2 hlsz (by omega)
   have cN:=bLen _ _ _ wr hB.out.1
   rw[Lib.strCells_length] at cN
   have hD:Hid (rdZ uS uE hX (ls.drop i) a i=match lnO uS uE hX l a.size with|some x=>rdZ uS uE hX (ls.drop (i+1)) (a++x) (i+1)|none=>(⟨#[]⟩,230,(i:Int))):=⟨by
    have e:=List.getElem_cons_drop hlt
    rw[<- e,(List.getElem?_eq_some_iff.1 hx).2,rdZ]
    cases lnO uS uE hX l a.size<;>rfl⟩
   rw[hI.out] at hD
   have hls:=hlz.out l
   clear hI hx
   cases hO:lnO uS uE hX l a.size with
   | none =>
    rw[hO] at cl hD
    clear hO hls
    have hD2:Hid (Z=(⟨#[]⟩,230,(i:Int))):=⟨hD.out⟩
    clear hD k0
    go_wp2_with (first|(go_at_call 8;refine cN.mono ?_;clear cN;rintro _ w0 ⟨rfl,rfl⟩)|(go_at_call 7;refine cl.mono ?_;clear cl;rintro _ w1 ⟨y,rfl,-,j1⟩))
    go_ret3
    exact⟨by rw[hD2.out];rfl,hB.out.2.trans (j1.mono hB.out.2.size)⟩
   | some x =>
    have hxs:=hls x _ hO
    rw[hO] at cl hD
    clear hO hls
    have hD2:Hid (rdZ uS uE hX (ls.drop (i+1)) (a++x) (i+1)=Z):=⟨hD.out.symm⟩
    clear hD k0
    have hsz:(a++x).size=a.size+x.size:=ByteArray.size_append
    have cW:Hid (∀ W,Below wr.heap.size wr W->Calls Tryz.prog 9 #[.pointer (some ⟨w.heap.size,0,none⟩),.string x] W fun e w'=>e = .returned (.tuple #[.int .i64 (x.size:Int),.nilIface])/\Hid (IsB w.heap.size w.heap.size (Lib.strCells (a++x)) w'/\Below w.heap.size w w')):=⟨fun W hW=>(wString w.heap.size w.heap.size (Lib.strCells a) x W (IsB_keep hB.out.1 hW) (by rw[Lib.strCells_length];omega) (Nat.le_trans hB.out.2.size hW.size)).mono fun e w' h=>⟨h.1,⟨by rw[<- strCells_app];exact h.2.1,(hB.out.2.trans (hW.mono hB.out.2.size)).trans h.2.2.1⟩⟩⟩
    go_wp2_with (first|(go_at_call 8;refine cN.mono ?_;clear cN;rintro _ w0 ⟨rfl,rfl⟩)|(go_at_call 7;refine cl.mono ?_;clear cl;rintro _ w1 ⟨y,rfl,hyu,j1⟩;obtain rfl:=hyu x rfl;clear hyu;have cW1:=cW.out w1 j1)|(go_at_call 9;refine cW1.mono ?_;clear cW1 cW;rintro _ w2 ⟨rfl,hN⟩))
    go_roundw
    case rel=>exact⟨i+1,a++y,by go_num,by omega,by rw[hsz];omega,hD2,hN⟩
    case measure=>simp[RowKit.intOf];omega
  ·obtain rfl:i=ls.length:=by omega
   have l1:decide ((ls.length:Int)<(ls.length:Int))=false:=by simp
   have hD2:Hid (Z=(a,0,0)):=⟨by rw[<- hI.out,List.drop_length,rdZ]⟩
   have cS:=bString w.heap.size w.heap.size a.data.toList wr hB.out.1 hB.out.2.size
   clear hI
   go_wp2_with (go_at_call 10;refine cS.mono ?_;clear cS;rintro _ w1 ⟨rfl,j1⟩)
   go_ret3
   exact⟨by rw[hD2.out];rfl,hB.out.2.trans j1⟩
theorem sameTexts_self (ls:List ByteArray) (pa pb:Option Addr) (ca cb:Nat) (w:World) (hA:TxL w pa ls) (hB:TxL w pb ls) (hl:ls.length<=1048576) :
  Calls Tryz.prog 6 #[.slice pa ls.length ca,.slice pb ls.length cb] w fun e w'=>e = .returned (.bool true)/\Below w.heap.size w w':=by
 replace hA:=Hid.mk hA
 replace hB:=Hid.mk hB
 go_enter Tryz.func6,Tryz.ntmps6
 go_wp2_with fail
 go_loopw [5] (fun q wr=>∃ i:Nat,q = .int .i64 (i:Int)/\i<=ls.length/\Hid (Below w.heap.size w wr)) (fun q _=>ls.length-(RowKit.intOf q).toNat)
 case atStart=>exact⟨0,by go_num,Nat.zero_le _,⟨Below.refl _ _⟩⟩
 case round =>
  obtain⟨i,rfl,hi,hW⟩:=hrel
  by_cases hlt:i<ls.length
  ·obtain⟨x,hx⟩:∃ x,ls[i]?=some x:=⟨ls[i],List.getElem?_eq_getElem hlt⟩
   have l1:decide ((i:Int)<(ls.length:Int))=true:=by simp;omega
   obtain⟨g,o,rfl,hg,k0⟩:=hA.out i x hx
   obtain⟨g',o',rfl,hg',k0'⟩:=hB.out i x hx
   obtain⟨p,p0,pN,pB,ka,kb⟩:∃ p:World->Prop,p wr.drew/\Nonempty (CW p)/\(∀ V,p V->Below w.heap.size w V)/\(∀ θ:CW p,θ.w.cell? ⟨g,o+i,none⟩=some (.string x))/\(∀ θ:CW p,θ.w.cell? ⟨g',o'+i,none⟩=some (.string x)) :=
    ⟨fun V=>Below w.heap.size w V,hW.out.drew,⟨⟨w,Below.refl _ _⟩⟩,fun _ h=>h,fun θ=>(θ.h.cell (p:=⟨g,o+i,none⟩) hg).trans k0,fun θ=>(θ.h.cell (p:=⟨g',o'+i,none⟩) hg').trans k0'⟩
   clear k0 k0' hx
   go_wp2_with fail
   refine wp_region_lx p (by kernel_rfl) (by kernel_rfl) (fun _ _ d _ _ h=>by cases d<;>exact h) p0 ?_
   have hp:=p0
   generalize World.drew _=W2 at hp ⊢
   repeat (refine lx_one rfl ?_;(first|go_big_quiet_skip|(go_big_quiet_want;go_big_quiet_op;go_big_quiet_on));refine wpQuiet_nil ?_)
   refine lx_done ?_
   have hF:Hid (Below w.heap.size w W2):=⟨pB _ hp⟩
   clear ka kb pB pN p0 hp
   go_wp2_with fail
   go_roundw
   case rel=>exact⟨i+1,by go_num,by omega,hF⟩
   case measure=>simp[RowKit.intOf];omega
  ·obtain rfl:i=ls.length:=by omega
   have l1:decide ((ls.length:Int)<(ls.length:Int))=false:=by simp
   go_wp2_with fail
   go_ret
   exact⟨rfl,hW.out⟩
def lOf (s:ByteArray):List Nat:=s.data.toList.map UInt8.toNat
def sOf (L:List Nat):ByteArray:=⟨(L.map UInt8.ofNat).toArray⟩
def cU (b:Nat):Value:=.int .u8 (b:Int)
theorem lOf_length (s:ByteArray):(lOf s).length=s.size:=by unfold lOf;rw[List.length_map,tl_len]
theorem sOf_size (L:List Nat):(sOf L).size=L.length:=by unfold sOf;simp[ByteArray.size]
theorem ch_lOf (s:ByteArray) (i:Nat):ch s i=(lOf s).getD i 0:=by
 unfold ch lOf
 simp only[List.getD,List.getElem?_map]
 cases s.data.toList[i]?<;>rfl
theorem cU_one (L:List Nat):∀ u∈L.map cU,u.oneCell'=true:=by
 intro u hu
 obtain⟨_,_,rfl⟩:=List.mem_map.1 hu
 rfl
theorem info5:∃ i,Tryz.prog.info? 5=some i/\i.zero=some (.int .u8 0)/\i.size=1/\i.bytes=1:=by
 have h:(Tryz.prog.info? 5).map (fun i=>(i.zero,i.size,i.bytes))=some (some (.int .u8 0),1,1):=by kernel_rfl
 obtain⟨i,hi,hz⟩:=Option.map_eq_some_iff.1 h
 simp only[Prod.mk.injEq] at hz
 exact⟨i,hi,hz.1,hz.2.1,hz.2.2⟩
theorem rowIs_setCells {b:Nat} {t:TypeId} {n:Nat}:∀ (vs:List Value) (o:Nat) (f:Nat->Value) (w:World),w.rowIs b t n f->(w.setCells b o vs).rowIs b t n (fun j=>if o<=j/\j<o+vs.length then vs.getD (j-o) (f j) else f j)
 | [],o,f,w,h=>h.congr fun j _=>by rw[if_neg (by simp)]
 | v::vs,o,f,w,h=>by
  refine(rowIs_setCells vs (o+1) _ _ (h.set o v)).congr fun j _=>?_
  simp only[List.length_cons]
  by_cases e:j=o
  ·subst e
   rw[if_neg (by omega),if_pos rfl,if_pos (by omega),Nat.sub_self];rfl
  ·by_cases c:o+1<=j/\j<o+1+vs.length
   ·have hl:j-(o+1)<vs.length:=by omega
    rw[if_pos c,if_pos (show o<=j/\j<o+(vs.length+1) by omega),show j-o=(j-(o+1))+1 by omega]
    simp[List.getD,List.getElem?_eq_getElem hl]
   ·rw[if_neg c,if_neg e,if_neg (by omega)]
theorem below_setCells {B b:Nat} {a:World} (hB:B<=b):∀ (vs:List Value) (o:Nat) (w:World),Below B a w->Below B a (w.setCells b o vs)
 | [],_,_,h=>h
 | v::r,o,_,h=>below_setCells hB r (o+1) _ (h.setCell hB v)
def Buf (w:World) (B:Nat) (v:Value) (L:List Nat):Prop:=w.ownsRow B 5 1 v L.length (L.map cU)
theorem Buf.nil (w:World) (B:Nat):Buf w B (.slice none 0 0) []:=World.ownsRow_nil w B _ 1
theorem Buf.below {w w':World} {B:Nat} {v:Value} {L:List Nat} (h:Buf w B v L) (hb:Below w.heap.size w w'):Buf w' B v L:=by
 refine World.ownsRow.kept (row:=none) h ⟨hb.os,hb.tape,hb.output,hb.size,fun k hk _=>hb.block k hk⟩ ?_
 cases hv:v.ownBlock<;>simp
theorem Buf.conv {w:World} {B:Nat} {v:Value} {L:List Nat} (h:Buf w B v L):(convert 29 9 v).run Tryz.prog w = .ok (.string (sOf L)) w:=by
 rcases h.2 with ⟨rfl,h0⟩|⟨g,cap,cur,rfl,hb,hg,hn,hm,hs,ht⟩
 ·obtain rfl:L=[]:=List.length_eq_zero_iff.1 h0
  exact run_convert_bytes_nil w 29 5 Tryz.underlying29 Tryz.underlying5 0 0 9 Tryz.underlying9
 ·have:=run_convert_bytes_arg w 29 5 Tryz.underlying29 Tryz.underlying5 g 0 L.length cap (L.map Int.ofNat) (by simp) (fun i hi=>by
   have hx:(L.map cU)[i]?=some (cU L[i]):=by simp[hi]
   have:=World.ownsRow.cells h (g:=g) rfl i _ hx
   have hadd:(⟨g,0,none⟩:Addr).add i=⟨g,i,none⟩:=by unfold Addr.add;split<;>simp_all
   rw[hadd] at this
   rw[Nat.zero_add,this]
   simp[cU,List.getD,hi]) 9 Tryz.underlying9
  have e:strOfNums (L.map Int.ofNat)=sOf L:=by
   unfold strOfNums sOf
   simp[Function.comp_def]
  rw[this,e]
theorem Buf.append {w:World} {B:Nat} {v:Value} {L:List Nat} (h:Buf w B v L) {tx:TypeId} {x:Value} {M:List Nat} (S:Src Tryz.prog 1 tx x M.length (M.map cU) w) (hl:L.length+M.length<=140737488355328) (hB:B<=w.heap.size) :
  ∃ v' w',(∀ ty,(Builtin.append_ #[29,tx] ty #[v,x]).run Tryz.prog w = .ok v' w')/\(Buf w' B v' (L++M)/\Below B w w'):=by
 obtain⟨i,hi,hz,hsz,hby⟩:=info5
 have S':Src Tryz.prog i.size tx x M.length (M.map cU) w:=by rw[hsz];exact S
 have hlen:(L++M).map cU=L.map cU++M.map cU:=List.map_append
 have grow:∀ (base:Option Addr) (sCap:Nat),v = .slice base L.length sCap->sCap<L.length+M.length ->
   (Builtin.firstCells i.size L.length (.slice base L.length sCap)).run Tryz.prog w.drew = .ok (L.map cU).toArray w.drew ->
   ∃ v' w',(∀ ty,(Builtin.append_ #[29,tx] ty #[v,x]).run Tryz.prog w = .ok v' w')/\(Buf w' B v' (L++M)/\Below B w w'):=by
  rintro base sCap rfl hlt hold
  have hfit:Builtin.nextslicecap (L.length+M.length) sCap*i.bytes<=281474976710656:=by
   have:=growslice_fits (bytes:=1) hlt (by omega)
   rw[hby];exact this
  have ge:=grownCap_ge w (L.length+M.length) sCap 5
  have le:=grownCap_le_maxLen w (L.length+M.length) sCap 5 (by unfold maxLen;omega)
  refine⟨_,_,fun ty=>run_append_grow_src w 29 tx ty 5 i (.int .u8 0) Tryz.underlying29 hi hz base L.length sCap _ hold x M.length _ S' hlt (by omega) hfit,⟨?_,?_⟩,(Below.refl _ _).drew.alloc hB _⟩
  ·rw[List.length_map,List.length_append,Nat.mul_one]
  ·refine .inr ⟨w.heap.size,_,_,by rw[List.length_append],hB,heap_alloc_new w.drew _,by rw[List.length_append];exact ge,le,?_,?_⟩
   ·simp only[Array.size_append,List.size_toArray,size_zeroCells]
    rw[List.length_append,List.length_map,List.length_map,show (Value.int .u8 0).cells.size=1 from rfl]
    omega
   ·rw[Nat.mul_one,Array.toList_append,List.take_append_of_le_length (by simp),hlen,List.take_of_length_le (by simp)]
 rcases h.2 with ⟨rfl,h0⟩|⟨g,cap,cur,rfl,hb,hg,hn,hm,hs,ht⟩
 ·obtain rfl:L=[]:=List.length_eq_zero_iff.1 h0
  by_cases hM:M.length=0
  ·obtain rfl:M=[]:=List.length_eq_zero_iff.1 hM
   refine⟨.slice none 0 0,w,fun ty=>?_,h,Below.refl _ _⟩
   have hln:∀ w':World,(Builtin.lenOf x).run Tryz.prog w' = .ok 0 w':=S'.len
   have hcl:(Builtin.firstCells i.size 0 x).run Tryz.prog w = .ok #[] w:=S'.cells
   rcases S'.kind with ⟨e',hk⟩|hk <;>
    simp[Builtin.append_,run_underlying Tryz.underlying29,run_underlying hk,sizeOf,typeInfo,hi,hln,hcl]
  ·exact grow none 0 rfl (by simp;omega) (by simpa using run_firstCells_none w.drew i.size 0 0 0)
 ·by_cases hroom:L.length+M.length<=cap
  ·have hcs:cur.size=cap:=by rw[hs,Nat.mul_one]
   refine⟨_,_,fun ty=>run_append_room_src w 29 tx ty 5 i Tryz.underlying29 hi g 0 L.length cap x M.length _ S' hroom (fun j hj=>?_) (fun j hj=>?_),⟨?_,?_⟩,?_⟩
   ·rw[hsz,Nat.zero_add,Nat.mul_one,cell_of_row w g _ cur _ (0,0) hg]
    rw[List.length_map] at hj
    have:L.length+j<cur.size:=by omega
    simp[this]
   ·unfold World.frozen?
    simp[hg]
   ·rw[List.length_map,List.length_append,Nat.mul_one]
   ·rw[hsz,Nat.zero_add,Nat.mul_one]
    have R:w.rowIs g 5 cap (fun j=>cur.toList.getD j (.int .u8 0)):=⟨cur,hg,hcs,fun j hj=>by
     have:j<cur.size:=by omega
     simp[List.getD,this]⟩
    obtain⟨cur',h1,h2,h3⟩:=rowIs_setCells (M.map cU) L.length _ _ R
    refine .inr ⟨g,cap,cur',by rw[List.length_append],hb,h1,by rw[List.length_append];exact hroom,hm,by rw[h2,Nat.mul_one],?_⟩
    rw[List.length_append,Nat.mul_one,hlen]
    rw[Nat.mul_one] at ht
    apply List.ext_getElem?
    intro j
    by_cases hj:j<L.length+M.length
    ·have hj2:j<cap:=by omega
     have hj3:=h3 j hj2
     rw[List.getElem?_take_of_lt hj,Array.getElem?_toList,hj3]
     dsimp only
     by_cases hjl:j<L.length
     ·rw[if_neg (by omega),List.getElem?_append_left (by simpa using hjl),<- ht,List.getElem?_take_of_lt hjl]
      have:j<cur.size:=by omega
      simp[List.getD,this]
     ·rw[if_pos ⟨by omega,by simpa using hj⟩,List.getElem?_append_right (by simpa using hjl),List.length_map]
      have:j-L.length<(M.map cU).length:=by simp;omega
      simp[List.getD,show j-L.length<M.length by omega]
    ·rw[List.getElem?_eq_none (by simp;omega),List.getElem?_eq_none (by simp;omega)]
   ·exact below_setCells hb _ _ _ (Below.refl _ _)
  ·refine grow (some ⟨g,0,none⟩) cap rfl (by omega) ?_
   refine run_firstCells_some w.drew i.size L.length ⟨g,0,none⟩ L.length cap _ (by rw[List.length_map,hsz,Nat.mul_one]) (fun j u hu=>?_)
   have:=World.ownsRow.cells h (g:=g) rfl j u hu
   simpa using this
theorem ret_pair {k k':IntKind} {a b c d:Int} (h:a=b) (h2:c=d):Ending.returned (.tuple #[.int k a,.int k' c]) = .returned (.tuple #[.int k b,.int k' d]):=by rw[h,h2]
theorem i64_or_nat (a b:Nat) (ha:a<9223372036854775808) (hb:b<9223372036854775808):bits .or .i64 (a:Int) (b:Int)=((a ||| b:Nat):Int):=by
 have hx:a ||| b<2 ^ 63:=Nat.or_lt_two_pow (by omega) (by omega)
 show IntKind.i64.wrap ((BitVec.ofInt 64 (a:Int) ||| BitVec.ofInt 64 (b:Int)).toNat:Int)=_
 rw[BitVec.toNat_or,ofInt_u64 a (by omega),ofInt_u64 b (by omega),IntKind.wrap_i64]
 omega
def digB (c:Nat):Bool:=decide (48<=c)&&decide (c<=57)
def worth (c:Nat):Option Nat:=if 48<=c/\c<=57 then some (c-48) else if 97<=c/\c<=102 then some (c-87) else if 65<=c/\c<=70 then some (c-55) else none
theorem worth_lt {c d:Nat} (h:worth c=some d):d<16:=by
 unfold worth at h
 split at h
 ·cases h;omega
 ·split at h
  ·cases h;omega
  ·split at h
   ·cases h;omega
   ·cases h
theorem isDigit_any (c:Nat) (w:World):Calls Tryz.prog 67 #[.int .u8 (c:Int)] w fun e w'=>e = .returned (.bool (digB c))/\w'=w:=by
 unfold digB
 by_cases h:48<=c
 ·go_enter Tryz.func67,Tryz.ntmps67
  go_wp2
  go_ret
  exact⟨ret_bool (by simp[h];omega),rfl⟩
 ·have d:decide (48<=(c:Int))=false:=by simp;omega
  go_enter Tryz.func67,Tryz.ntmps67
  go_wp2
  go_ret
  exact⟨ret_bool (by simp;omega),rfl⟩
theorem ret_ib {a b:Int} {p q:Bool} (h:a=b) (h2:p=q):Ending.returned (.tuple #[.int .i64 a,.bool p]) = .returned (.tuple #[.int .i64 b,.bool q]):=by rw[h,h2]
theorem hexDigit_some (c d:Nat) (hc:c<256) (h:worth c=some d) (w:World):Calls Tryz.prog 48 #[.int .u8 (c:Int)] w fun e w'=>e = .returned (.tuple #[.int .i64 (d:Int),.bool true])/\w'=w:=by
 unfold worth at h
 by_cases h1:48<=c/\c<=57
 ·rw[if_pos h1] at h
  cases h
  have b:digB c=true:=by unfold digB;simp[h1]
  have sb:IntKind.u8.wrap ((c:Int)-48)=((c-48:Nat):Int):=by rw[IntKind.wrap_u8'];omega
  have e:((c-48:Nat):Int)=(c:Int)-48:=by omega
  go_enter Tryz.func48,Tryz.ntmps48
  go_wp2_with (go_at_call 67;refine(isDigit_any _ _).mono ?_;rintro e w1 ⟨rfl,rfl⟩)
  go_ret2
  exact⟨ret_ib e.symm rfl,rfl⟩
 ·rw[if_neg h1] at h
  have b:digB c=false:=by unfold digB;simp;omega
  by_cases h2:97<=c/\c<=102
  ·rw[if_pos h2] at h
   cases h
   have d1:decide (97<=(c:Int))=true:=by simp;omega
   have e:((c-87:Nat):Int)=(c:Int)-97+10:=by omega
   go_enter Tryz.func48,Tryz.ntmps48
   go_wp2_with (go_at_call 67;refine(isDigit_any _ _).mono ?_;rintro e w1 ⟨rfl,rfl⟩)
   go_ret2
   exact⟨ret_ib e.symm rfl,rfl⟩
  ·rw[if_neg h2] at h
   by_cases h3:65<=c/\c<=70
   ·rw[if_pos h3] at h
    cases h
    have d1:decide (97<=(c:Int))=false:=by simp;omega
    have d2:decide (65<=(c:Int))=true:=by simp;omega
    have e:((c-55:Nat):Int)=(c:Int)-65+10:=by omega
    go_enter Tryz.func48,Tryz.ntmps48
    go_wp2_with (go_at_call 67;refine(isDigit_any _ _).mono ?_;rintro e w1 ⟨rfl,rfl⟩)
    go_ret2
    exact⟨ret_ib e.symm rfl,rfl⟩
   ·rw[if_neg h3] at h
    cases h
theorem hexDigit_none (c:Nat) (h:worth c=none) (w:World):Calls Tryz.prog 48 #[.int .u8 (c:Int)] w fun e w'=>e = .returned (.tuple #[.int .i64 0,.bool false])/\w'=w:=by
 unfold worth at h
 have h1:¬ (48<=c/\c<=57):=fun hh=>by rw[if_pos hh] at h;cases h
 rw[if_neg h1] at h
 have h2:¬ (97<=c/\c<=102):=fun hh=>by rw[if_pos hh] at h;cases h
 rw[if_neg h2] at h
 have h3:¬ (65<=c/\c<=70):=fun hh=>by rw[if_pos hh] at h;cases h
 have b:digB c=false:=by unfold digB;simp;omega
 cases d1:decide (97<=(c:Int))
 ·cases d2:decide (65<=(c:Int))
  ·go_enter Tryz.func48,Tryz.ntmps48
   go_wp2_with (go_at_call 67;refine(isDigit_any _ _).mono ?_;rintro e w1 ⟨rfl,rfl⟩)
   go_ret2
   exact⟨rfl,rfl⟩
  ·have d3:decide ((c:Int)<=70)=false:=by simp at d2 ⊢;omega
   go_enter Tryz.func48,Tryz.ntmps48
   go_wp2_with (go_at_call 67;refine(isDigit_any _ _).mono ?_;rintro e w1 ⟨rfl,rfl⟩)
   go_ret2
   exact⟨rfl,rfl⟩
 ·have d3:decide ((c:Int)<=102)=false:=by simp at d1 ⊢;omega
  have d2:decide (65<=(c:Int))=true:=by simp at d1 ⊢;omega
  have d4:decide ((c:Int)<=70)=false:=by simp at d1 ⊢;omega
  go_enter Tryz.func48,Tryz.ntmps48
  go_wp2_with (go_at_call 67;refine(isDigit_any _ _).mono ?_;rintro e w1 ⟨rfl,rfl⟩)
  go_ret2
  exact⟨rfl,rfl⟩
def pairN (s:ByteArray) (a:Nat):Nat×Nat :=
 if s.size<=a then (0,a) else
 match worth (ch s a) with
 | none=>(0,a)
 | some d=>if s.size<=a+1 then (d,a+1) else
  match worth (ch s (a+1)) with
  | none=>(d,a+1)
  | some e=>(d*16+e,a+2)
theorem hexPair_any (s:ByteArray) (a:Nat) (w:World) (ha:a+2<=9223372036854775807):Calls Tryz.prog 28 #[.string s,.int .i64 (a:Int)] w fun e w'=>e = .returned (.tuple #[.int .u8 ((pairN s a).1:Nat),.int .i64 ((pairN s a).2:Nat)])/\w'=w:=by
 go_enter Tryz.func28,Tryz.ntmps28
 go_wp2
 go_loop [6,7] (fun c i=>∃ j v:Nat,j<=2/\i = .int .i64 ((a:Int)+(j:Int))/\c = .int .i64 (v:Int)/\a+j<=max a s.size /\
  ((j=0/\v=0)\/(j=1/\a<s.size/\worth (ch s a)=some v)\/(j=2/\a+1<s.size/\∃ d e,worth (ch s a)=some d/\worth (ch s (a+1))=some e/\v=d*16+e))) (fun _ i=>a+2-(intOf i).toNat)
 case atStart=>exact⟨0,0,by omega,by go_num,rfl,by omega,Or.inl ⟨rfl,rfl⟩⟩
 case round =>
  obtain⟨j,v,hj,rfl,rfl,hjs,hcs⟩:=hrel
  by_cases hin:a+j<s.size
  ·have l1:decide ((a:Int)+(j:Int)<(s.size:Int))=true:=by simp;omega
   by_cases hj2:j<2
   ·have ix:∀ w:World,(Instr.index 9 (.string s) (.int .i64 ((a:Int)+(j:Int)))).run Tryz.prog w = .ok (.int .u8 (ch s (a+j):Int)) w:=fun w=>idx (w:=w) s (a+j) hin .i64
    have ch256:=ch_lt s (a+j)
    cases hw:worth (ch s (a+j)) with
    | none =>
     have hp:Go.RowKit.Hid (pairN s a=(v,a+j)):=by
      show pairN s a=(v,a+j)
      unfold pairN
      rw[if_neg (by omega)]
      rcases hcs with ⟨rfl,rfl⟩|⟨rfl,h1,h2⟩|⟨rfl,_⟩
      ·rw[Nat.add_zero] at hw
       rw[hw];rfl
      ·rw[h2];dsimp only;rw[if_neg (by omega),hw]
      ·omega
     have hv:v<256:=by
      rcases hcs with ⟨rfl,rfl⟩|⟨rfl,h1,h2⟩|⟨rfl,_⟩
      ·decide
      ·have:=worth_lt h2;omega
      ·omega
     go_wp2_with (go_at_call 48;refine(hexDigit_none _ hw _).mono ?_;rintro e w1 ⟨rfl,rfl⟩)
     go_ret2
     rw[hp.out]
     exact⟨ret_pair (by simp) (by simp),rfl⟩
    | some d =>
     have hd:=worth_lt hw
     have hv16:v<16:=by
      rcases hcs with ⟨rfl,rfl⟩|⟨rfl,h1,h2⟩|⟨rfl,_⟩
      ·decide
      ·exact worth_lt h2
      ·omega
     have hor:bits .or .i64 ((v:Int)*16) (d:Int)=((v*16+d:Nat):Int):=by
      rw[show ((v:Int)*16)=((v*16:Nat):Int) by simp,i64_or_nat _ _ (by omega) (by omega),nat_join 4 _ _ (by omega) (by omega)]
     go_wp2_with (go_at_call 48;refine(hexDigit_some _ d ch256 hw _).mono ?_;rintro e w1 ⟨rfl,rfl⟩)
     go_round
     case rel =>
      refine⟨j+1,v*16+d,by omega,by go_num,rfl,by omega,?_⟩
      rcases hcs with ⟨rfl,rfl⟩|⟨rfl,h1,h2⟩|⟨rfl,_⟩
      ·exact Or.inr (Or.inl ⟨rfl,by omega,by simpa using hw⟩)
      ·exact Or.inr (Or.inr ⟨rfl,by omega,v,d,h2,hw,rfl⟩)
      ·omega
     case measure=>simp[intOf];omega
   ·obtain rfl:j=2:=by omega
    rcases hcs with ⟨h,_⟩|⟨h,_⟩|⟨_,h1,d,e,h2,h3,rfl⟩
    ·omega
    ·omega
    have hd:=worth_lt h2
    have he:=worth_lt h3
    have hp:Go.RowKit.Hid (pairN s a=(d*16+e,a+2)):=by show pairN s a=_;unfold pairN;rw[if_neg (by omega),h2];dsimp only;rw[if_neg (by omega),h3]
    go_wp2
    go_ret2
    rw[hp.out]
    exact⟨ret_pair (by simp) (by simp),rfl⟩
  ·have l1:decide ((a:Int)+(j:Int)<(s.size:Int))=false:=by simp;omega
   have hp:Go.RowKit.Hid (pairN s a=(v,a+j))/\v<256:=by
    show pairN s a=(v,a+j)/\v<256
    unfold pairN
    rcases hcs with ⟨rfl,rfl⟩|⟨rfl,h1,h2⟩|⟨rfl,h1,d,e,h2,h3,rfl⟩
    ·exact⟨by rw[if_pos (by omega)];rfl,by decide⟩
    ·have:=worth_lt h2
     exact⟨by rw[if_neg (by omega),h2];dsimp only;rw[if_pos (by omega)],by omega⟩
    ·have hd:=worth_lt h2
     have he:=worth_lt h3
     exact⟨by rw[if_neg (by omega),h2];dsimp only;rw[if_neg (by omega),h3],by omega⟩
   obtain⟨hp,hv⟩:=hp
   go_wp2
   go_ret2
   rw[hp.out]
   exact⟨ret_pair (by simp) (by simp),rfl⟩
theorem step_append_ex {P:Program} {w:World} {ops:Array Oper} {o:Oper} {a:Act} {K:Act->World->Prop} {Q:Exit->Act->World->Prop} {E:Prop} (hgd:o.guard=none) (s x:Operand) (t tx:TypeId)
  (ho:o.op = .call { callee:=.builtin .append,args:=#[s,x],argTypes:=#[t,tx] }) (sv xv:Value) (hs:a.eval s=sv) (hx:a.eval x=xv) (Post:Value->World->Prop)
  (hrun:∃ v w',(∀ ty,(Builtin.append_ #[t,tx] ty #[sv,xv]).run P w = .ok v w')/\Post v w')
  (h:∀ v w',Post v w'->K (a.put o.dst v) w'):if Region.wanted o (yielded ops a.tmps)=true then Oper.wp P o a w K Q else E:=by
 have hw:Region.wanted o (yielded ops a.tmps)=true:=by simp[Region.wanted,hgd]
 rw[if_pos hw]
 obtain⟨v,w',hr,hp⟩:=hrun
 unfold Oper.wp execOp
 simp only[ho,resolve,invoke,builtin,Sem.run_bind,Sem.run_pure,Result.andThen_ok,List.map_toArray,List.map_cons,List.map_nil,hs,hx,hr]
 exact h v w' hp
theorem src_lit (W:World) (g n c:Nat) (M:List Nat) (hn:M.length=n) (hg:W.heap[g]?=some (.cells (M.map cU).toArray 5 (0,0))):Src Tryz.prog 1 29 (.slice (some ⟨g,0,none⟩) n c) n (M.map cU) W :=
 Src.ofSlice W Tryz.underlying29 ⟨g,0,none⟩ n c _ (by rw[List.length_map,hn,Nat.mul_one]) (World.news_of_block hg) (cU_one M)
def hexc (d:Nat):Nat:=if d<10 then 48+d else 87+d
def smallS:ByteArray:=⟨#[48,49,50,51,52,53,54,55,56,57,97,98,99,100,101,102]⟩
theorem small_ch:∀ d,d<16->ch smallS d=hexc d:=by decide
theorem u8_and15 (c:Nat) (h:c<256):bits .and .u8 (c:Int) 15=((c % 16:Nat):Int):=by
 rw[show (15:Int)=((15:Nat):Int) from rfl,u8_and_nat c 15 h (by decide)]
 congr 1
 exact Nat.and_two_pow_sub_one_eq_mod c 4
theorem appendHex_any (B:Nat) (v:Value) (L:List Nat) (c:Nat) (w:World) (hc:c<256) (h:Buf w B v L) (hB:B<=w.heap.size) (hl:L.length+2<=140737488355328) :
  Calls Tryz.prog 29 #[v,.int .u8 (c:Int)] w fun e w'=>∃ v',e = .returned v'/\Buf w' B v' (L++[hexc (c / 16),hexc (c % 16)])/\Below B w w':=by
 have i1:∀ w:World,(Instr.index 9 (.string { data:=#[48,49,50,51,52,53,54,55,56,57,97,98,99,100,101,102] }) (.int .u8 ((c:Int) / 16))).run Tryz.prog w = .ok (.int .u8 (hexc (c / 16):Nat)) w:=fun w=>by
  rw[<- small_ch _ (by omega)]
  exact idx (w:=w) smallS (c / 16) (by show c / 16<16;omega) .u8
 have i2:∀ w:World,(Instr.index 9 (.string { data:=#[48,49,50,51,52,53,54,55,56,57,97,98,99,100,101,102] }) (.int .u8 ((c:Int) % 16))).run Tryz.prog w = .ok (.int .u8 (hexc (c % 16):Nat)) w:=fun w=>by
  rw[<- small_ch _ (by omega)]
  exact idx (w:=w) smallS (c % 16) (by show c % 16<16;omega) .u8
 have a15:=u8_and15 c hc
 obtain⟨v',w',hrun,hbuf,hbel⟩:=Buf.append (w:=(w.alloc (.cells #[.int .u8 (hexc (c / 16):Nat),.int .u8 (hexc (c % 16):Nat)] 5)).drew) (B:=B) (v:=v) (L:=L) (tx:=29) (M:=[hexc (c / 16),hexc (c % 16)])
  (h.below (bel1 w _).drew) (src_lit _ w.heap.size 2 2 _ rfl (heap_alloc_new w _)) hl (by simp;omega)
 have HB:Go.RowKit.Hid (Below B w w'):=(((Below.refl B w).alloc hB _).drew).trans hbel
 clear h hbel
 go_enter Tryz.func29,Tryz.ntmps29
 go_wp2
 go_region_law ((refine step_append_ex (by rfl) _ _ _ _ (by rfl) _ _ (by rfl) (by rfl) (fun a b=>a=v'/\b=w') ⟨v',w',hrun,rfl,rfl⟩ ?_;rintro _ _ ⟨rfl,rfl⟩))
 all_goals
  go_wp2_with fail
  go_ret
  exact⟨_,rfl,hbuf,HB⟩
theorem make_buf (w:World) (c:Nat) (C:Int) (hC:C=(c:Int)) (hc:c<=281474976710656):∃ w',(Instr.makeSlice 29 (.int .i64 0) (.int .i64 C)).run Tryz.prog w = .ok (.slice (some ⟨w.heap.size,0,none⟩) 0 c) w' /\
  Buf w' w.heap.size (.slice (some ⟨w.heap.size,0,none⟩) 0 c) []/\Below w.heap.size w w':=by
 obtain⟨i,hi,hz,hsz,hby⟩:=info5
 obtain⟨w',h1,h2,h3⟩:=run_make_own (P:=Tryz.prog) w w.heap.size 29 5 i (.int .u8 0) 1 Tryz.underlying29 hi hz hsz .i64 .i64 c (by rw[hby];omega) (by unfold maxLen;omega) (Nat.le_refl _)
 subst hC
 exact⟨w',h1,h2,⟨h3.os,h3.tape,h3.output,h3.size,fun k hk=>h3.block k hk (by simp)⟩⟩
def hexL (l:List Nat):List Nat:=l.flatMap fun c=>[hexc (c / 16),hexc (c % 16)]
theorem hexL_length (l:List Nat):(hexL l).length=2*l.length:=by
 unfold hexL
 induction l with
 | nil=>rfl
 | cons a r ih=>simp only[List.flatMap_cons,List.length_append,List.length_cons,List.length_nil,ih];omega
theorem take_succ_ch (s:ByteArray) (i:Nat) (h:i<s.size):(lOf s).take (i+1)=(lOf s).take i++[ch s i]:=by
 have h2:i<(lOf s).length:=by rw[lOf_length];exact h
 rw[List.take_add_one,ch_lOf]
 simp[List.getD,h2]
theorem take_all (s:ByteArray):(lOf s).take s.size=lOf s:=by rw[<- lOf_length];exact List.take_length
theorem Hex_any (s:ByteArray) (w:World) (hs:s.size<=35184372088832):Calls Tryz.prog 14 #[.string s] w fun e w'=>e = .returned (.string (sOf (hexL (lOf s))))/\Below w.heap.size w w':=by
 obtain⟨wm,hmk,hbm,hbel⟩:=make_buf w (2*s.size) (2*(s.size:Int)) (by simp) (by omega)
 go_enter Tryz.func14,Tryz.ntmps14
 go_wp2
 go_loopw [3,11] (fun v i wr=>∃ k:Nat,k<=s.size/\i = .int .i64 k/\Buf wr w.heap.size v (hexL ((lOf s).take k))/\Below w.heap.size w wr) (fun _ i _=>s.size-(intOf i).toNat)
 case atStart=>exact⟨0,Nat.zero_le _,rfl,hbm,hbel⟩
 case round =>
  rename Value=>v
  obtain⟨k,hk,rfl,hB,HB⟩:=hrel
  by_cases hlt:k<s.size
  ·have ix:∀ w:World,(Instr.index 9 (.string s) (.int .i64 (k:Int))).run Tryz.prog w = .ok (.int .u8 (ch s k:Int)) w:=fun w=>idx (w:=w) s k hlt .i64
   have hlen:(hexL ((lOf s).take k)).length+2<=140737488355328:=by rw[hexL_length,List.length_take,lOf_length];omega
   go_wp2_with (go_at_call 29;refine(appendHex_any w.heap.size _ _ _ _ (ch_lt s k) hB HB.size hlen).mono ?_;rintro e w1 ⟨v1,rfl,hB1,hb1⟩)
   go_roundw
   case rel =>
    refine⟨k+1,by omega,by go_num,?_,HB.trans hb1⟩
    rw[take_succ_ch s k hlt]
    unfold hexL
    rw[List.flatMap_append]
    exact hB1
   case measure=>simp[intOf];omega
  ·obtain rfl:k=s.size:=by omega
   have hcv:=hB.conv
   rw[take_all] at hcv
   go_wp2
   go_ret
   exact⟨rfl,HB⟩
end Go.Proofs.YtekpgklllfobfaaGreatDoor

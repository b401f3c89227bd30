import Derived.Test.YtekpgklllfobfaaGreatDoorK04
import Derived.Shelf.Strings.Builder1
import Derived.Shelf.Strconv.Itoa3
import Derived.Lib.AppendIntMem
import Derived.Deep.AppendSrc
namespace Go.Proofs.YtekpgklllfobfaaGreatDoor
open Go.Shelf
def _root_.Go.Proofs.Tryz.lays169_ren:Go.Shelf.Ren:=⟨fun|169=>10|n=>n,fun|70=>28|9=>9|0=>0|72=>31|37=>29|127=>47|3=>3|5=>5|n=>n,fun|n=>n⟩
theorem _root_.Go.Proofs.Tryz.lays169:Go.Proofs.Lays.n169 Tryz.prog Tryz.lays169_ren:={
 mixed:=by kernel_rfl
 f169:=Tryz.func10.trans (congrArg some (by kernel_rfl))
 t0:=Tryz.underlying0
 a0:=Tryz.isAgg0
 z0:=Tryz.sizeOf0
 v0:=Tryz.zeroValue0
 t3:=Tryz.underlying3
 a3:=Tryz.isAgg3
 z3:=Tryz.sizeOf3
 v3:=Tryz.zeroValue3
 t9:=Tryz.underlying9
 a9:=Tryz.isAgg9
 z9:=Tryz.sizeOf9
 v9:=Tryz.zeroValue9
 t37:=Tryz.underlying29
 a37:=Tryz.isAgg29
 z37:=Tryz.sizeOf29
 v37:=Tryz.zeroValue29
 t70:=Tryz.underlying28
 a70:=Tryz.isAgg28
 z70:=Tryz.sizeOf28
 v70:=Tryz.zeroValue28
 t72:=Tryz.underlying31
 a72:=Tryz.isAgg31
 z72:=Tryz.sizeOf31
 v72:=Tryz.zeroValue31
 t127:=Tryz.underlying47
 a127:=Tryz.isAgg47
 z127:=Tryz.sizeOf47
 v127:=Tryz.zeroValue47 }
def _root_.Go.Proofs.Tryz.lays171_ren:Go.Shelf.Ren:=⟨fun|171=>15|243=>30|246=>49|283=>68|284=>69|285=>70|286=>71|129=>94|317=>93|318=>95|319=>96|320=>97|337=>110|338=>111|n=>n,fun|3=>3|9=>9|2=>2|4=>4|171=>101|0=>0|53=>68|37=>29|5=>5|173=>104|212=>120|51=>121|20=>20|213=>122|46=>82|232=>141|233=>142|n=>n,fun|17=>2|18=>5|19=>6|n=>n⟩
theorem _root_.Go.Proofs.Tryz.lays171:Go.Proofs.LaysM.n171 Tryz.prog Tryz.lays171_ren:={
 mixed:=by kernel_rfl
 f129:=Tryz.func94.trans (congrArg some (by kernel_rfl))
 f171:=Tryz.func15.trans (congrArg some (by kernel_rfl))
 f243:=Tryz.func30.trans (congrArg some (by kernel_rfl))
 f246:=Tryz.func49.trans (congrArg some (by kernel_rfl))
 f283:=Tryz.func68.trans (congrArg some (by kernel_rfl))
 f284:=Tryz.func69.trans (congrArg some (by kernel_rfl))
 f285:=Tryz.func70.trans (congrArg some (by kernel_rfl))
 f286:=Tryz.func71.trans (congrArg some (by kernel_rfl))
 f317:=Tryz.func93.trans (congrArg some (by kernel_rfl))
 f318:=Tryz.func95.trans (congrArg some (by kernel_rfl))
 f319:=Tryz.func96.trans (congrArg some (by kernel_rfl))
 f320:=Tryz.func97.trans (congrArg some (by kernel_rfl))
 f337:=Tryz.func110.trans (congrArg some (by kernel_rfl))
 f338:=Tryz.func111.trans (congrArg some (by kernel_rfl))
 t0:=Tryz.underlying0
 a0:=Tryz.isAgg0
 z0:=Tryz.sizeOf0
 v0:=Tryz.zeroValue0
 t2:=Tryz.underlying2
 a2:=Tryz.isAgg2
 z2:=Tryz.sizeOf2
 v2:=Tryz.zeroValue2
 t3:=Tryz.underlying3
 a3:=Tryz.isAgg3
 z3:=Tryz.sizeOf3
 v3:=Tryz.zeroValue3
 t4:=Tryz.underlying4
 a4:=Tryz.isAgg4
 z4:=Tryz.sizeOf4
 v4:=Tryz.zeroValue4
 t5:=Tryz.underlying5
 a5:=Tryz.isAgg5
 z5:=Tryz.sizeOf5
 v5:=Tryz.zeroValue5
 t9:=Tryz.underlying9
 a9:=Tryz.isAgg9
 z9:=Tryz.sizeOf9
 v9:=Tryz.zeroValue9
 t20:=Tryz.underlying20
 a20:=Tryz.isAgg20
 z20:=Tryz.sizeOf20
 v20:=Tryz.zeroValue20
 t37:=Tryz.underlying29
 a37:=Tryz.isAgg29
 z37:=Tryz.sizeOf29
 v37:=Tryz.zeroValue29
 t46:=Tryz.underlying82
 a46:=Tryz.isAgg82
 z46:=Tryz.sizeOf82
 v46:=Tryz.zeroValue82
 t51:=Tryz.underlying121
 a51:=Tryz.isAgg121
 z51:=Tryz.sizeOf121
 v51:=Tryz.zeroValue121
 t53:=Tryz.underlying68
 a53:=Tryz.isAgg68
 z53:=Tryz.sizeOf68
 v53:=Tryz.zeroValue68
 t171:=Tryz.underlying101
 a171:=Tryz.isAgg101
 z171:=Tryz.sizeOf101
 v171:=Tryz.zeroValue101
 t173:=Tryz.underlying104
 a173:=Tryz.isAgg104
 z173:=Tryz.sizeOf104
 v173:=Tryz.zeroValue104
 t212:=Tryz.underlying120
 a212:=Tryz.isAgg120
 z212:=Tryz.sizeOf120
 v212:=Tryz.zeroValue120
 t213:=Tryz.underlying122
 a213:=Tryz.isAgg122
 z213:=Tryz.sizeOf122
 t232:=Tryz.underlying141
 a232:=Tryz.isAgg141
 z232:=Tryz.sizeOf141
 v232:=Tryz.zeroValue141
 t233:=Tryz.underlying142
 a233:=Tryz.isAgg142
 z233:=Tryz.sizeOf142
 v233:=Tryz.zeroValue142
 g17:=by kernel_rfl
 g18:=by kernel_rfl
 g19:=by kernel_rfl
 i0:=by kernel_rfl
 i2:=by kernel_rfl
 i3:=by kernel_rfl
 i4:=by kernel_rfl
 i5:=by kernel_rfl
 i9:=by kernel_rfl
 i20:=by kernel_rfl
 i37:=by kernel_rfl
 i46:=by kernel_rfl
 i51:=by kernel_rfl
 i53:=by kernel_rfl
 i171:=by kernel_rfl
 i173:=by kernel_rfl
 i212:=by kernel_rfl
 i232:=by kernel_rfl
 i233:=by kernel_rfl
 m17:=by kernel_rfl
 m18:=by kernel_rfl
 m19:=by kernel_rfl }
set_option maxRecDepth 1000000
set_option maxHeartbeats 16000000
open Go.ChangeShapes Go.WideShapes Go.ChangeAt Go.RowKit Go.Maps
theorem sizeB:(Tryz.prog.info? 31).map (·.size)=some 2:=by kernel_rfl
theorem liesB:liesAt Tryz.prog Tryz.prog.depth 31 (2 / Tryz.prog.cellsOf 31) 0 31 1=true:=by kernel_rfl
theorem cc_used (b:Nat) (w:World) (h0:w.cell? ⟨b,0,none⟩=some (.pointer (some ⟨b,0,none⟩))) :
  Calls Tryz.prog 18 #[.pointer (some ⟨b,0,none⟩)] w fun e w'=>e = .returned (.tuple #[])/\w'=w:=by
 obtain⟨j,hj,_⟩:=Option.map_eq_some_iff.1 sizeB
 go_enter Tryz.func18,Tryz.ntmps18
 go_wp2
 rw[Lib.run_neq_ptr_same w _ Tryz.underlying28 hj]
 go_wp2
 go_end0
 exact⟨rfl,rfl⟩
theorem cc_fresh (b:Nat) (w:World) (h0:w.cell? ⟨b,0,none⟩=some (.pointer none)) (hsh:w.shape? b=some (31,2)) (hfz:w.frozen? ⟨b,0,none⟩=false) :
  Calls Tryz.prog 18 #[.pointer (some ⟨b,0,none⟩)] w fun e w'=>e = .returned (.tuple #[])/\w'=w.setCell ⟨b,0,none⟩ (.pointer (some ⟨b,0,none⟩)):=by
 obtain⟨j,hj,hjs⟩:=Option.map_eq_some_iff.1 sizeB
 go_enter Tryz.func18,Tryz.ntmps18
 go_wp2
 rw[Lib.run_to_unsafe w ⟨b,0,none⟩ Tryz.underlying28 Tryz.underlying62 hj (by rw[hjs];decide) hsh (Nat.zero_lt_succ 1)]
 simp only[Result.andThen]
 rw[Oper.upon_value]
 go_wp2
 rw[run_callFunc_extern Tryz.func33 (by kernel_rfl) (by kernel_rfl) (by kernel_rfl) (e:=Extern.AbiNoEscape.same) (by kernel_rfl)]
 rw[Lib.run_noEscape]
 simp only[Result.andThen]
 rw[Oper.upon_value]
 go_wp2
 rw[Lib.run_from_unsafe w ⟨b,0,none⟩ Tryz.underlying62 Tryz.underlying28 hj hsh liesB]
 simp only[Result.andThen]
 rw[Oper.upon_value]
 go_wp2
 go_end0
 exact⟨rfl,rfl⟩
abbrev IsB (B b:Nat) (bs:List Value) (w:World):Prop:=Lib.IsBuilder 31 5 B b bs w
def Ok8 (b:Nat) (w w':World):Prop:=∀ k,k<w.heap.size->k≠b->(∀ c,w.heap[k]?≠some (.cells c 5))->w'.heap[k]?=w.heap[k]?
theorem cc_any (B b:Nat) (bs:List Value) (w:World) (h:IsB B b bs w):Calls Tryz.prog 18 #[.pointer (some ⟨b,0,none⟩)] w fun e w'=>e = .returned (.tuple #[])/\(Lib.BuilderAt 31 5 B b (.pointer (some ⟨b,0,none⟩)) bs w'/\Below B w w'/\∀ k,k≠b->w'.heap[k]?=w.heap[k]?):=by
 rcases h with h|h
 ·refine(cc_fresh b w h.cell0 h.shape h.frozen0).mono ?_
  rintro e w' ⟨rfl,rfl⟩
  exact⟨rfl,h.used _,(Below.refl B w).setCell (p:=⟨b,0,none⟩) h.1 _,fun k hk=>set_off hk⟩
 ·refine(cc_used b w h.cell0).mono ?_
  rintro e w' ⟨rfl,rfl⟩
  exact⟨rfl,h,Below.refl B _,fun k _=>rfl⟩
theorem infoByte:(Tryz.prog.info? 5).map (fun i=>(i.zero,i.size,i.bytes))=some (some (.int .u8 0),1,1):=by kernel_rfl
theorem neB5:31≠5:=by decide
theorem own_cells {W:World} {B n:Nat} {ty:TypeId} {z:Nat} {v:Value} {xs:List Value} (h:W.ownsRow B ty z v n xs) {k:Nat} (hk:v.ownBlock=some k):∃ cur,W.heap[k]?=some (.cells cur ty):=by
 rcases h.2 with ⟨e,-⟩|⟨g,cap,cur,e,-,hg,-⟩
 ·rw[e] at hk;simp[Value.ownBlock] at hk
 ·rw[e] at hk
  simp only[Value.ownBlock,Option.some.injEq] at hk
  subst hk
  exact⟨cur,hg⟩
theorem wByte (B b:Nat) (bs:List Value) (c:Int) (w:World) (h:IsB B b bs w) (hlen:bs.length+1<=140737488355328) (hBw:B<=w.heap.size) :
  Calls Tryz.prog 76 #[.pointer (some ⟨b,0,none⟩),.int .u8 c] w fun e w'=>e = .returned .nilIface/\(IsB B b (bs++[.int .u8 c]) w'/\Below B w w'/\Ok8 b w w'):=by
 have cC:=cc_any B b bs w h
 clear h
 have hC2:Calls Tryz.prog 18 #[.pointer (some ⟨b,0,none⟩)] w fun e w1=>e = .returned (.tuple #[])/\∃ pv cv,w1.cell? ⟨b,1,none⟩=some (.slice pv bs.length cv)/\Hid (∃ v' w',(∀ ty,(Builtin.append_ #[29,29] ty #[.slice pv bs.length cv,.slice (some ⟨w1.heap.size,0,none⟩) 1 1]).run Tryz.prog (w1.alloc (.cells #[.int .u8 c] 5)) = .ok v' w')/\((∃ p' c',v' = .slice p' (bs.length+1) c')/\w'.cell? ⟨b,1,none⟩=some (.slice pv bs.length cv)/\w'.frozen? ⟨b,1,none⟩=false/\Hid (IsB B b (bs++[.int .u8 c]) (w'.setCell ⟨b,1,none⟩ v')/\Below B w (w'.setCell ⟨b,1,none⟩ v')/\Ok8 b w (w'.setCell ⟨b,1,none⟩ v')))):=cC.mono fun e w1 ⟨h1,⟨hB,v,hbk,hown,hne⟩,hb1,hk1⟩=>by
  obtain⟨pv,cv,rfl⟩:∃ pv cv,v = .slice pv bs.length cv:=by
   rcases hown.2 with ⟨hv,h0⟩|⟨g,cap,cur,hv,-⟩
   ·exact⟨none,0,by rw[hv,h0]⟩
   ·exact⟨_,_,hv⟩
  have hs1:=hb1.size
  have hlt:=(Array.getElem?_eq_some_iff.1 hbk).1
  obtain⟨v',w',q1,q2,q3,q4,q5⟩:=ap_genP (W:=w1) Tryz.underlying29 infoByte rfl (by decide) hown [.int .u8 c] rfl (by simp[Value.oneCell']) (by omega) (by omega) (by omega)
  have hb2:w'.heap[b]?=some (.cells #[.pointer (some ⟨b,0,none⟩),.slice pv bs.length cv] 31):=(q4 b hlt hne).trans hbk
  obtain⟨g,cc,hv⟩:=own_slic q2 (by omega)
  refine⟨h1,pv,cv,cell_at hbk 1,⟨v',w',q1,⟨_,_,hv⟩,cell_at hb2 1,frz_at hb2,⟨.inr ?_,(hb1.trans q3).setCell (p:=⟨b,1,none⟩) hB _,fun k hk hkb hk8=>?_⟩⟩⟩
  ·exact Lib.BuilderAt.put (T:=31) (e:=5) hB hb2 (bs':=bs++[.int .u8 c]) (by simpa using q2) neB5
  ·refine(set_off hkb).trans ((q4 k (by omega) fun e=>?_).trans (hk1 k hkb))
   obtain⟨cur,hc⟩:=own_cells hown e
   exact hk8 cur (by rw[<- hk1 k hkb];exact hc)
 clear cC
 go_enter Tryz.func76,Tryz.ntmps76
 go_wp2_with (first
  | (go_at_call 18;refine hC2.mono ?_;rintro _ w1 ⟨rfl,pv,cv,c1,hap⟩)
  | (at_builtin;go_must (refine(ap_step (by rfl) _ _ _ _ (by rfl) _ _ (by rfl) (by rfl) _ hap.out ?_));rintro v8 w8 ⟨⟨p8,c8,rfl⟩,k1,k2,hF⟩))
 go_ret
 exact⟨rfl,hF.out⟩
theorem wString (B b:Nat) (bs:List Value) (s:ByteArray) (w:World) (h:IsB B b bs w) (hlen:bs.length+s.size<=140737488355328) (hBw:B<=w.heap.size) :
  Calls Tryz.prog 9 #[.pointer (some ⟨b,0,none⟩),.string s] w fun e w'=>e = .returned (.tuple #[.int .i64 (s.size:Int),.nilIface])/\(IsB B b (bs++Lib.strCells s) w'/\Below B w w'/\Ok8 b w w'):=by
 have cC:=cc_any B b bs w h
 clear h
 obtain⟨i0,hi,hz0⟩:=Option.map_eq_some_iff.1 infoByte
 simp only[Prod.mk.injEq] at hz0
 go_enter Tryz.func9,Tryz.ntmps9
 go_wp2_with (go_at_call 18;refine cC.mono ?_)
 rintro _ w1 ⟨rfl,⟨hB,v,hbk,hown,hne⟩,hb1,hk1⟩
 have hs1:=hb1.size
 replace hk1:=Hid.mk hk1
 have c0:w1.cell? ⟨b,0,none⟩=some (.pointer (some ⟨b,0,none⟩)):=cell_at hbk 0
 have c1:w1.cell? ⟨b,1,none⟩=some v:=cell_at hbk 1
 obtain⟨pv,cv,rfl⟩:∃ pv cv,v = .slice pv bs.length cv:=by
  rcases hown.2 with ⟨hv,h0⟩|⟨g,cap,cur,hv,-⟩
  ·exact⟨none,0,by rw[hv,h0]⟩
  ·exact⟨_,_,hv⟩
 go_wp2_with (at_builtin;refine Lib.wpList_append_own_string _ rfl _ _ 29 9 rfl B 5 i0 Tryz.underlying29 Tryz.underlying9 hi hz0.1 hz0.2.1 hz0.2.2 _ _ _ rfl hown s rfl ?c3 ?c4 ?c5 ?_)
 case c3=>unfold maxLen;omega
 case c4=>omega
 case c5=>have:=hb1.size;omega
 intro v' w2 hown' hgrow _
 have hlt:=(Array.getElem?_eq_some_iff.1 hbk).1
 have hb2:w2.heap[b]?=some (.cells #[.pointer (some ⟨b,0,none⟩),.slice pv bs.length cv] 31):=(hgrow.block b hlt (fun e=>hne e.symm)).trans hbk
 have d1:w2.cell? ⟨b,1,none⟩=some (.slice pv bs.length cv):=cell_at hb2 1
 have f1:w2.frozen? ⟨b,1,none⟩=false:=frz_at hb2
 obtain⟨ao,n',cap,rfl⟩:∃ ao n' cap,v' = .slice ao n' cap:=by
  rcases hown'.2 with ⟨hv,_⟩|⟨g,cap,cur,hv,_⟩
  ·exact⟨_,_,_,hv⟩
  ·exact⟨_,_,_,hv⟩
 go_wp2_with fail
 go_ret2
 refine⟨rfl,.inr ?_,?_,fun k hk hkb hk8=>?_⟩
 ·exact Lib.BuilderAt.put (T:=31) (e:=5) hB hb2 (bs':=bs++Lib.strCells s) (by simpa[Lib.strCells_length] using hown') neB5
 ·exact(hb1.grown hgrow (by have:=hb1.size;omega) (fun k hk=>(hown.lt k hk).1)).setCell (p:=⟨b,1,none⟩) hB _
 ·refine(set_off hkb).trans ((hgrow.block k (by omega) fun e=>?_).trans (hk1.out k hkb))
  obtain⟨cur,hc⟩:=own_cells hown e.symm
  exact hk8 cur (by rw[<- hk1.out k hkb];exact hc)
theorem bString (B b:Nat) (l:List UInt8) (w:World) (h:IsB B b (Lib.byteCells l) w) (hBw:B<=w.heap.size):Calls Tryz.prog 10 #[.pointer (some ⟨b,0,none⟩)] w fun e w'=>e = .returned (.string ⟨l.toArray⟩)/\Below B w w' :=
 Any.Builder_String_any Tryz.lays169 ⟨⟨sizeB,liesB⟩,Tryz.underlying5,by intro w;kernel_rfl,by intro w;kernel_rfl,by intro w;kernel_rfl,infoByte,by kernel_rfl,by kernel_rfl,neB5⟩ B b l w h hBw
theorem Itoa_any (n:Nat) (hn:n<=65535) (w:World) (htab:Lib.TabIs Tryz.prog w "internal/strconv.uint64pow10" .u64 Lib.pow10Tab):Calls Tryz.prog 15 #[.int .i64 (n:Int)] w fun e w'=>e = .returned (.string ⟨(Lib.itoa (n:Int)).toArray⟩)/\Below w.heap.size w w' :=
 (Any.strconv_Itoa Tryz.lays171 (n:Int) (by omega) (by omega) w htab).mono fun e w' ⟨h1,k,os,h2⟩=>⟨h1,by rw[h2];exact Lib.below_grow _ w (Nat.le_refl _) k os⟩
def decB (n:Nat):ByteArray:=⟨(Lib.decDigits n).toArray⟩
theorem dec_small {m:Nat} (h:m / 10=0):Lib.decDigits m=[UInt8.ofNat (48+m % 10)]:=by
 rw[Lib.decDigits,dif_pos (by omega),show m % 10=m by omega]
theorem dec_big {m:Nat} (h:m / 10≠0):Lib.decDigits m=Lib.decDigits (m / 10)++[UInt8.ofNat (48+m % 10)]:=by
 rw[Lib.decDigits,dif_neg (by omega)]
def DcS (n m:Nat) (t:ByteArray):Prop:=Lib.decDigits n=Lib.decDigits m++t.data.toList
theorem DcS.last {n m:Nat} {t:ByteArray} (h:DcS n m t) (hm:m / 10=0):oneB (48+m % 10)++t=decB n:=by
 refine ba_ext ?_
 rw[ByteArray.data_append,Array.toList_append]
 show [UInt8.ofNat (48+m % 10)]++_=_
 unfold decB
 rw[h,dec_small hm]
theorem DcS.next {n m:Nat} {t:ByteArray} (h:DcS n m t) (hm:m / 10≠0):DcS n (m / 10) (oneB (48+m % 10)++t):=by
 unfold DcS
 rw[h,dec_big hm,ByteArray.data_append,Array.toList_append,List.append_assoc]
 rfl
theorem decimal21 (n:Nat) (hn:n<=65535) (w:World):Calls Tryz.prog 42 #[.int .i64 (n:Int)] w fun e w'=>e = .returned (.string (decB n))/\Below w.heap.size w w':=by
 have H0:Hid (DcS n n ⟨#[]⟩/\Below w.heap.size w w):=⟨by unfold DcS;simp,Below.refl _ _⟩
 go_enter Tryz.func42,Tryz.ntmps42
 go_wp2_with fail
 go_loopw [0,3] (fun q v wr=>∃ (m:Nat) (t:ByteArray),m+t.size<=65535/\q = .int .i64 (m:Int)/\v = .string t/\Hid (DcS n m t/\Below w.heap.size w wr)) (fun q _ _=>(RowKit.intOf q).toNat)
 case atStart=>exact⟨n,⟨#[]⟩,hn,rfl,rfl,H0⟩
 case round =>
  clear H0
  obtain⟨m,t,hm,rfl,rfl,hI⟩:=hrel
  have hts:t.size<=65535:=by omega
  have hsz:(oneB (48+m % 10)++t).size=1+t.size:=by rw[ByteArray.size_append,oneB_size]
  have hmod:(m:Int).tmod 10=((m % 10:Nat):Int):=by rw[Int.tmod_eq_emod_of_nonneg (by omega)];omega
  have hdiv:(m:Int).tdiv 10=((m / 10:Nat):Int):=by rw[Int.tdiv_eq_ediv_of_nonneg (by omega)];omega
  have hmI:(m:Int)<=65535:=by omega
  obtain⟨r,hr⟩:∃ r,m % 10=r:=⟨_,rfl⟩
  obtain⟨k,hk⟩:∃ k,m / 10=k:=⟨_,rfl⟩
  have hr9:r<10:=by omega
  have hw8:IntKind.u8.wrap (48+(r:Int))=((48+r:Nat):Int):=by rw[IntKind.wrap_u8];omega
  have hkI:(k:Int)<=65535:=by omega
  rw[hr] at hmod hsz
  rw[hk] at hdiv
  have hovf:¬ 9223372036854775807<(oneB (48+r)).size+t.size:=by rw[oneB_size];omega
  have hcv:=nconv wr wr.heap.size (48+r) rfl
  have hb:=hI.out.2.trans ((bel1 wr (.cells #[.int .u8 ((48+r:Nat):Int)] 5)).mono hI.out.2.size)
  rw[show ((48+r:Nat):Int)=48+(r:Int) by omega] at hcv hb
  replace hb:=Hid.mk hb
  by_cases hk0:k=0
  ·have e0:((k:Int)==0)=true:=by rw[hk0];rfl
   have e0n:(k==0)=true:=by rw[hk0];rfl
   have hF:Hid (oneB (48+r)++t=decB n):=⟨by rw[<- hr];exact hI.out.1.last (by omega)⟩
   clear hk0 hk hr hI
   go_wp2_with fail
   go_ret
   exact⟨by rw[hF.out];rfl,hb.out⟩
  ·have e0:((k:Int)==0)=false:=beqN (by omega)
   have e0n:(k==0)=false:=beq_eq_false_iff_ne.2 hk0
   have hF:Hid (DcS n k (oneB (48+r)++t)):=⟨by rw[<- hr,<- hk];exact hI.out.1.next (by omega)⟩
   have hlt:k<m:=by omega
   clear hk hr hI
   go_wp2_with fail
   go_roundw
   case rel=>exact⟨k,oneB (48+r)++t,by rw[hsz];omega,rfl,rfl,⟨hF.out,hb.out⟩⟩
   case measure=>simp[RowKit.intOf];omega
def okT (x:ByteArray×Int):Bool:=symbolB x.1&&(decide (-1<=x.2)&&decide (x.2<=65535))
def seT (x:ByteArray×Int):ByteArray:=if 0<=x.2 then ((⟨#[91]⟩:ByteArray)++decB x.2.toNat)++(⟨#[93]⟩:ByteArray) else ⟨#[]⟩
def txN (l:List (ByteArray×Int)):Nat->ByteArray
 | 0=>⟨#[]⟩
 | i+1=>match l[i]? with
  | some x=>((if i=0 then txN l i else txN l i++(⟨#[46]⟩:ByteArray))++x.1)++seT x
  | none=>txN l i
def textZ (l:List (ByteArray×Int)):Option ByteArray:=if l.all okT then some (txN l l.length) else none
theorem ba_assoc (a b c:ByteArray):(a++b)++c=a++(b++c):=by
 refine ba_ext ?_
 simp only[ByteArray.data_append,Array.toList_append,List.append_assoc]
theorem ba_nil (a:ByteArray):a++(⟨#[]⟩:ByteArray)=a:=by
 refine ba_ext ?_
 simp[ByteArray.data_append]
theorem dec_len:∀ n,(Lib.decDigits n).length<=n+1:=by
 intro n
 induction n using Nat.strongRecOn with
 | _ n ih =>
  by_cases h:n / 10=0
  ·rw[dec_small h];simp
  ·rw[dec_big h,List.length_append,List.length_singleton]
   have:=ih (n / 10) (by omega)
   omega
theorem decB_size (n:Nat):(decB n).size<=n+1:=by
 show (Lib.decDigits n).toArray.size<=_
 simpa using dec_len n
theorem seT_size {x:ByteArray×Int} (h:x.2<=65535):(seT x).size<=65540:=by
 unfold seT
 split
 ·rw[ByteArray.size_append,ByteArray.size_append]
  have:=decB_size x.2.toNat
  show 1+(decB x.2.toNat).size+1<=_
  omega
 ·exact Nat.zero_le _
theorem okT_of {x:ByteArray×Int} (h:okT x=true):symbolB x.1=true /\ -1<=x.2/\x.2<=65535/\x.1.size<=64:=by
 unfold okT at h
 simp only[Bool.and_eq_true,decide_eq_true_eq] at h
 refine⟨h.1,h.2.1,h.2.2,?_⟩
 have:=of_decide_eq_true (show decide _=true from h.1)
 exact this.2.1
theorem txN_succ {l:List (ByteArray×Int)} {i:Nat} {x:ByteArray×Int} (h:l[i]?=some x):txN l (i+1)=((if i=0 then txN l i else txN l i++(⟨#[46]⟩:ByteArray))++x.1)++seT x:=by rw[txN,h]
theorem txN_size {l:List (ByteArray×Int)}:∀ {i:Nat},(∀ j x,j<i->l[j]?=some x->okT x=true)->(txN l i).size<=65605*i
 | 0,_=>Nat.le_refl _
 | i+1,h=>by
  have ih:=txN_size (l:=l) (i:=i) fun j x hj=>h j x (by omega)
  cases hx:l[i]? with
  | none=>rw[txN,hx];show (txN l i).size<=_;omega
  | some x =>
   obtain⟨-,-,h3,h4⟩:=okT_of (h i x (by omega) hx)
   have h5:=seT_size h3
   rw[txN_succ hx,ByteArray.size_append,ByteArray.size_append]
   have:(if i=0 then txN l i else txN l i++(⟨#[46]⟩:ByteArray)).size<=(txN l i).size+1:=by
    split
    ·omega
    ·rw[ByteArray.size_append];exact Nat.le_refl _
   omega
structure SpRow (w:World) (pp:Option Addr) (H:Nat) (l:List (ByteArray×Int)):Prop where
 c:∀ (i:Nat) (x:ByteArray×Int),l[i]?=some x->∃ g o,pp=some ⟨g,o,none⟩/\g<H/\w.cell? ⟨g,o+i*2,none⟩=some (.string x.1)/\w.cell? ⟨g,o+i*2+1,none⟩=some (.int .i64 x.2)
theorem SpRow.below {w w':World} {pp:Option Addr} {H:Nat} {l:List (ByteArray×Int)} (h:SpRow w pp H l) (hb:Below H w w'):SpRow w' pp H l :=
 ⟨fun i x hx=>by
  obtain⟨g,o,e,hg,h1,h2⟩:=h.c i x hx
  exact⟨g,o,e,hg,(hb.cell (p:=⟨g,o+i*2,none⟩) hg).trans h1,(hb.cell (p:=⟨g,o+i*2+1,none⟩) hg).trans h2⟩⟩
theorem wpList_append_ex {P:Program} {w:World} {ops:Array Oper} {rest:List Oper} {o:Oper} {a:Act} {Q:Exit->Act->World->Prop} (hgd:o.guard=none) (s x:Operand) (t tx:TypeId)
  (ho:o.op = .call { callee:=.builtin .append,args:=#[s,x],argTypes:=#[t,tx] }) (sv xv:Value) (hs:a.eval s=sv) (hx:a.eval x=xv) (Post:Value->World->Prop)
  (hrun:∃ v w',(∀ ty,(Builtin.append_ #[t,tx] ty #[sv,xv]).run P w = .ok v w')/\Post v w')
  (h:∀ v w',Post v w'->wpList P ops Q rest (a.put o.dst v) w'):wpList P ops Q (o::rest) a w:=by
 obtain⟨v,w',hr,hp⟩:=hrun
 refine wpList_plain hgd fun _ hK=>?_
 unfold Oper.wp execOp
 simp only[ho,resolve,invoke,builtin,Sem.run_bind,Sem.run_pure,Result.andThen_ok,List.map_toArray,List.map_cons,List.map_nil,hs,hx,hr]
 exact hK _ _ (h v w' hp)
theorem spL_get (l:List (ByteArray×Int)) (i:Nat) (x:ByteArray×Int) (h:l[i]?=some x):(spL l)[i*2]?=some (.string x.1)/\(spL l)[i*2+1]?=some (.int .i64 x.2):=by
 induction l generalizing i with
 | nil=>simp at h
 | cons a r ih =>
  cases i with
  | zero=>simp at h;subst h;exact⟨rfl,rfl⟩
  | succ i =>
   have:=ih i (by simpa using h)
   rw[show (i+1)*2=i*2+2 by omega,show i*2+2+1=(i*2+1)+2 by omega]
   exact this
theorem addrI (g o k:Nat):(⟨g,o,none⟩:Addr).add k=⟨g,o+k,none⟩:=by unfold Addr.add;split<;>simp_all
def TE (w:World) (l:List (ByteArray×Int)) (e:Ending) (w':World):Prop:=Below w.heap.size w w'/\((∃ t,textZ l=some t/\e = .returned (.tuple #[.string t,.int .i64 0]))\/(textZ l=none/\e = .returned (.tuple #[.string ⟨#[]⟩,.int .i64 210])))
theorem res_T21 (tmps:Array Value) (t:ByteArray) (n:Int) (h2:tmps[2]?.getD undef = .string t) (h3:tmps[3]?.getD undef = .int .i64 n) (W:World) :
  (results Tryz.f24 tmps).run Tryz.prog W = .ok (.tuple #[.string t,.int .i64 n]) W:=by
 simp[results,Tryz.results24,go_sem,h2,h3]
theorem textZ_none {l:List (ByteArray×Int)} {i:Nat} {x:ByteArray×Int} (hx:l[i]?=some x) (h:okT x=false):textZ l=none:=by
 unfold textZ
 rw[if_neg]
 intro ha
 have:=List.all_eq_true.1 ha x (List.mem_of_getElem? hx)
 rw[h] at this
 cases this
theorem textZ_some {l:List (ByteArray×Int)} (h:∀ j x,j<l.length->l[j]?=some x->okT x=true):textZ l=some (txN l l.length):=by
 unfold textZ
 rw[if_pos]
 refine List.all_eq_true.2 fun x hx=>?_
 obtain⟨j,hj⟩:=List.mem_iff_getElem?.1 hx
 exact h j x (List.getElem?_eq_some_iff.1 hj).1 hj
theorem Text21 (l:List (ByteArray×Int)) (pp:Option Addr) (cp:Nat) (w:World) (hr:SpRow w pp w.heap.size l) (hl:l.length<=1048576) (hsz:∀ x∈l,x.1.size<=1048576):Calls Tryz.prog 24 #[.slice pp l.length cp] w fun e w'=>TE w l e w':=by
 have H0:Hid (Below w.heap.size w w/\∀ j x,j<0->l[j]?=some x->okT x=true):=⟨Below.refl _ _,fun j x hj=>absurd hj (Nat.not_lt_zero _)⟩
 replace hr:=Hid.mk hr
 replace hsz:=Hid.mk hsz
 go_enter Tryz.func24,Tryz.ntmps24
 go_wp2_with fail
 go_loopw [4,5] (fun v q wr=>∃ j:Nat,j<=l.length/\v = .string (txN l j)/\q = .int .i64 (j:Int)/\Hid (Below w.heap.size w wr/\∀ i x,i<j->l[i]?=some x->okT x=true)) (fun _ q _=>l.length-(RowKit.intOf q).toNat)
 case atStart=>exact⟨0,Nat.zero_le _,rfl,by go_num,H0⟩
 case round =>
  clear H0
  obtain⟨j,hj,rfl,rfl,hI⟩:=hrel
  by_cases hlt:j<l.length
  ·obtain⟨x,hx⟩:∃ x,l[j]?=some x:=⟨l[j],List.getElem?_eq_getElem hlt⟩
   obtain⟨g,o,rfl,hg,-,-⟩:=hr.out.c j x hx
   have hC:Hid (∀ W,Below w.heap.size w W->W.cell? ⟨g,o+j*2,none⟩=some (.string x.1)/\W.cell? ⟨g,o+j*2+1,none⟩=some (.int .i64 x.2)):=⟨fun W hW=>by
    obtain⟨g',o',e,-,h1,h2⟩:=(hr.out.below hW).c j x hx
    cases e
    exact⟨h1,h2⟩⟩
   obtain⟨c1,c2⟩:=hC.out wr hI.out.1
   have hji:(j:Int)<l.length:=by omega
   have hjb:(j:Int)<=1048576:=by omega
   have cS:Calls Tryz.prog 41 #[.string x.1] wr fun e w'=>e = .returned (.bool (symbolB x.1))/\w'.cell? ⟨g,o+j*2,none⟩=some (.string x.1)/\w'.cell? ⟨g,o+j*2+1,none⟩=some (.int .i64 x.2)/\Hid (Below w.heap.size w w'):=(rSymbol x.1 (by have:=hsz.out x (List.mem_of_getElem? hx);omega) wr).mono fun e w' ⟨h1,h2⟩=>by
    have hb:=hI.out.1.trans (h2.mono hI.out.1.size)
    exact⟨h1,(hC.out w' hb).1,(hC.out w' hb).2,⟨hb⟩⟩
   cases hok:okT x with
   | false =>
    have hF:Hid (textZ l=none):=⟨textZ_none hx hok⟩
    have hcase:symbolB x.1=false\/(symbolB x.1=true/\decide (x.2 < -1)=true)\/(symbolB x.1=true/\decide (x.2 < -1)=false/\decide ((65535:Int)<x.2)=true):=by
     unfold okT at hok
     cases hs:symbolB x.1 with
     | false=>exact .inl rfl
     | true =>
      rw[hs,Bool.true_and] at hok
      by_cases h1:x.2 < -1
      ·exact .inr (.inl ⟨rfl,decide_eq_true h1⟩)
      ·refine .inr (.inr ⟨rfl,decide_eq_false h1,decide_eq_true ?_⟩)
       rw[decide_eq_true (show -1<=x.2 by omega),Bool.true_and] at hok
       have:=of_decide_eq_false hok
       omega
    clear hI hok
    generalize x.2=n at *
    rcases hcase with hs|⟨hs,d1⟩|⟨hs,d1,d2⟩
    all_goals
     rw[hs] at cS
     go_wp2_with (go_at_call 41;refine cS.mono ?_;rintro _ w1 ⟨rfl,k1,k2,hB⟩)
     exact bodyPost_ret (res_T21 _ _ _ rfl rfl _) rfl ⟨hB.out,.inr ⟨hF.out,rfl⟩⟩
   | true =>
    obtain⟨hsy,hm1,h65,h64⟩:=okT_of hok
    rw[hsy] at cS
    have hs0:=txN_size (l:=l) (i:=j) fun i y hi=>hI.out.2 i y hi
    have hsB:(txN l j).size<=100000000000:=by omega
    have d1:decide (x.2 < -1)=false:=decide_eq_false (by omega)
    have d2:decide ((65535:Int)<x.2)=false:=decide_eq_false (by omega)
    have hall:Hid (∀ i y,i<j+1->l[i]?=some y->okT y=true):=⟨fun i y hi hy=>by
     by_cases e:i=j
     ·subst e
      rw[hx] at hy
      cases hy
      exact hok
     ·exact hI.out.2 i y (by omega) hy⟩
    have hsu:=txN_succ hx
    replace hsu:=Hid.mk hsu
    obtain⟨nm,n⟩:=x
    simp only[] at *
    generalize txN l j=s0 at *
    have o1:¬ 9223372036854775807<s0.size+1:=by omega
    have o2:¬ 9223372036854775807<s0.size+nm.size:=by omega
    have o3:¬ 9223372036854775807<(s0++(⟨#[46]⟩:ByteArray)).size+nm.size:=by rw[ByteArray.size_append];show ¬ _<s0.size+1+nm.size;omega
    by_cases hn0:0<=n
    ·obtain⟨m,hm⟩:∃ m:Nat,n=m:=⟨n.toNat,by omega⟩
     have d4:decide ((0:Int)<=n)=true:=decide_eq_true hn0
     have hdm:=decB_size m
     have hse:seT (nm,n)=((⟨#[91]⟩:ByteArray)++decB m)++(⟨#[93]⟩:ByteArray):=by
      unfold seT
      rw[if_pos hn0,hm]
      rfl
     have cD:Hid (∀ W,Below w.heap.size w W->Calls Tryz.prog 42 #[.int .i64 n] W fun e w'=>e = .returned (.string (decB m))/\Hid (Below w.heap.size w w')):=⟨fun W hW=>by
      rw[hm]
      exact(decimal21 m (by omega) W).mono fun e w' ⟨h1,h2⟩=>⟨h1,⟨hW.trans (h2.mono hW.size)⟩⟩⟩
     have hm6:m<=65535:=by omega
     clear hm
     generalize decB m=dd at *
     have p1:¬ 9223372036854775807<s0.size+nm.size+1:=by omega
     have p2:¬ 9223372036854775807<s0.size+nm.size+1+dd.size:=by omega
     have p3:¬ 9223372036854775807<s0.size+nm.size+1+dd.size+1:=by omega
     have p4:¬ 9223372036854775807<s0.size+1+nm.size:=by omega
     have p5:¬ 9223372036854775807<s0.size+1+nm.size+1:=by omega
     have p6:¬ 9223372036854775807<s0.size+1+nm.size+1+dd.size:=by omega
     have p7:¬ 9223372036854775807<s0.size+1+nm.size+1+dd.size+1:=by omega
     clear hdm
     by_cases hj0:j=0
     ·have dj:decide ((0:Int)<(j:Int))=false:=decide_eq_false (by omega)
      have djn:decide (0<j)=false:=decide_eq_false (by omega)
      have hR:Hid (txN l (j+1)=s0++nm++(⟨#[91]⟩:ByteArray)++dd++(⟨#[93]⟩:ByteArray)):=⟨by rw[hsu.out,if_pos hj0,hse];simp only[ba_assoc]⟩
      clear hj0 hI hok hsu hse hn0
      go_wp2_with (first
       | (go_at_call 41;refine cS.mono ?_;rintro _ w1 ⟨rfl,k1,k2,hB⟩;have cX:=cD.out w1 hB.out)
       | (go_at_call 42;refine cX.mono ?_;rintro _ w2 ⟨rfl,hB2⟩))
      go_roundw
      case rel=>exact⟨j+1,by omega,by rw[hR.out],by go_num,⟨hB2.out,hall.out⟩⟩
      case measure=>simp[RowKit.intOf];omega
     ·have dj:decide ((0:Int)<(j:Int))=true:=decide_eq_true (by omega)
      have djn:decide (0<j)=true:=decide_eq_true (by omega)
      have hR:Hid (txN l (j+1)=s0++(⟨#[46]⟩:ByteArray)++nm++(⟨#[91]⟩:ByteArray)++dd++(⟨#[93]⟩:ByteArray)):=⟨by rw[hsu.out,if_neg hj0,hse];simp only[ba_assoc]⟩
      clear hj0 hI hok hsu hse hn0
      go_wp2_with (first
       | (go_at_call 41;refine cS.mono ?_;rintro _ w1 ⟨rfl,k1,k2,hB⟩;have cX:=cD.out w1 hB.out)
       | (go_at_call 42;refine cX.mono ?_;rintro _ w2 ⟨rfl,hB2⟩))
      go_roundw
      case rel=>exact⟨j+1,by omega,by rw[hR.out],by go_num,⟨hB2.out,hall.out⟩⟩
      case measure=>simp[RowKit.intOf];omega
    ·have d4:decide ((0:Int)<=n)=false:=decide_eq_false hn0
     by_cases hj0:j=0
     ·have dj:decide ((0:Int)<(j:Int))=false:=decide_eq_false (by omega)
      have djn:decide (0<j)=false:=decide_eq_false (by omega)
      have hR:Hid (txN l (j+1)=s0++nm):=⟨by rw[hsu.out,if_pos hj0];unfold seT;rw[if_neg hn0,ba_nil]⟩
      clear hj0 hI hok hsu
      go_wp2_with (go_at_call 41;refine cS.mono ?_;rintro _ w1 ⟨rfl,k1,k2,hB⟩)
      go_roundw
      case rel=>exact⟨j+1,by omega,by rw[hR.out],by go_num,⟨hB.out,hall.out⟩⟩
      case measure=>simp[RowKit.intOf];omega
     ·have dj:decide ((0:Int)<(j:Int))=true:=decide_eq_true (by omega)
      have djn:decide (0<j)=true:=decide_eq_true (by omega)
      have hR:Hid (txN l (j+1)=(s0++(⟨#[46]⟩:ByteArray))++nm):=⟨by rw[hsu.out,if_neg hj0];unfold seT;rw[if_neg hn0,ba_nil]⟩
      clear hj0 hI hok hsu
      go_wp2_with (go_at_call 41;refine cS.mono ?_;rintro _ w1 ⟨rfl,k1,k2,hB⟩)
      go_roundw
      case rel=>exact⟨j+1,by omega,by rw[hR.out],by go_num,⟨hB.out,hall.out⟩⟩
      case measure=>simp[RowKit.intOf];omega
  ·obtain rfl:j=l.length:=by omega
   have d3:decide ((l.length:Int)<l.length)=false:=by simp
   have hF:Hid (TE w l (.returned (.tuple #[.string (txN l l.length),.int .i64 0])) wr):=⟨hI.out.1,.inl ⟨_,textZ_some hI.out.2,rfl⟩⟩
   clear hI hlt
   go_wp2_with fail
   exact bodyPost_ret (res_T21 _ _ _ rfl rfl _) rfl hF.out
theorem sc_app (a b:ByteArray):Lib.strCells (a++b)=Lib.strCells a++Lib.strCells b:=by
 unfold Lib.strCells
 simp[ByteArray.data_append]
theorem sc_46:Lib.strCells (⟨#[46]⟩:ByteArray)=[.int .u8 46]:=rfl
theorem sc_len (a:ByteArray):(Lib.strCells a).length=a.size:=Lib.strCells_length a
theorem IsB.below {B b:Nat} {bs:List Value} {W W':World} (h:IsB B b bs W) (hb:Below W.heap.size W W'):IsB B b bs W':=by
 have key:∀ p,Lib.BuilderAt 31 5 B b p bs W->Lib.BuilderAt 31 5 B b p bs W':=fun p ⟨h1,v,h2,h3,h4⟩=>⟨h1,v,(hb.block _ (Array.getElem?_eq_some_iff.1 h2).1).trans h2,own_stay h3 fun g hg=>hb.block g (h3.lt g hg).2,h4⟩
 rcases h with h|h
 ·exact .inl (key _ h)
 ·exact .inr (key _ h)
structure Tx (w:World) (t:ByteArray) (X:Nat) (x:ByteArray×Int) (W:World):Prop where
 ib:IsB w.heap.size w.heap.size (Lib.strCells t) W
 bl:Below w.heap.size w W
 xb:W.heap[X]?=some (spO x)
 lt:w.heap.size<X
theorem Tx.sz {w:World} {t:ByteArray} {X:Nat} {x:ByteArray×Int} {W:World} (h:Tx w t X x W):w.heap.size<=W.heap.size:=h.bl.size
theorem neSp:74≠5:=by decide
theorem Tx.step {w:World} {t t':ByteArray} {X:Nat} {x:ByteArray×Int} {W W':World} (h:Tx w t X x W) (ib:IsB w.heap.size w.heap.size (Lib.strCells t') W') (bl:Below w.heap.size W W') (ok:Ok8 w.heap.size W W'):Tx w t' X x W' :=
 ⟨ib,h.bl.trans bl,(ok X (Array.getElem?_eq_some_iff.1 h.xb).1 (by have:=h.lt;omega) (fun c e=>by rw[h.xb] at e;injection e with e;injection e with _ e _;exact neSp e)).trans h.xb,h.lt⟩
theorem Tx.dot {w:World} {t:ByteArray} {X:Nat} {x:ByteArray×Int} {W:World} (h:Tx w t X x W) (ht:t.size<=100000000000):Calls Tryz.prog 76 #[.pointer (some ⟨w.heap.size,0,none⟩),.int .u8 46] W fun e w'=>e = .returned .nilIface/\Tx w (t++(⟨#[46]⟩:ByteArray)) X x w' :=
 (wByte w.heap.size w.heap.size (Lib.strCells t) 46 W h.ib (by rw[sc_len];omega) h.sz).mono fun e w' ⟨h1,h2,h3,h4⟩=>⟨h1,h.step (by rw[sc_app,sc_46];exact h2) h3 h4⟩
theorem Tx.str {w:World} {t:ByteArray} {X:Nat} {x:ByteArray×Int} {W:World} (h:Tx w t X x W) (s:ByteArray) (ht:t.size+s.size<=100000000000):Calls Tryz.prog 9 #[.pointer (some ⟨w.heap.size,0,none⟩),.string s] W fun e w'=>e = .returned (.tuple #[.int .i64 (s.size:Int),.nilIface])/\Tx w (t++s) X x w' :=
 (wString w.heap.size w.heap.size (Lib.strCells t) s W h.ib (by rw[sc_len];omega) h.sz).mono fun e w' ⟨h1,h2,h3,h4⟩=>⟨h1,h.step (by rw[sc_app];exact h2) h3 h4⟩
theorem Tx.below {w:World} {t:ByteArray} {X:Nat} {x:ByteArray×Int} {W W':World} (h:Tx w t X x W) (hb:Below W.heap.size W W'):Tx w t X x W' :=
 ⟨h.ib.below hb,h.bl.trans (hb.mono h.bl.size),(hb.block _ (Array.getElem?_eq_some_iff.1 h.xb).1).trans h.xb,h.lt⟩
end Go.Proofs.YtekpgklllfobfaaGreatDoor

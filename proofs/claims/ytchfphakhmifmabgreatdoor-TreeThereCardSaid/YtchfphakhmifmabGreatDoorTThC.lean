import Derived.Test.YtchfphakhmifmabGreatDoorCards
import Derived.Test.YtchfphakhmifmabGreatDoorTie
import Derived.Test.YtchfphakhmifmabGreatDoorTB4
import Derived.Test.YtchfphakhmifmabGreatDoorXLaid
import Derived.Deep.Slices
namespace Go.Proofs.YtchfphakhmifmabGreatDoor
set_option maxRecDepth 1000000
set_option maxHeartbeats 16000000
namespace ThereLaw
open Go.ChangeShapes Go.WideShapes Go.ChangeAt Go.RowKit Go.ChangeMaps
theorem own:ownKnob Tryz.prog.godebug = none:=by kernel_rfl
theorem laidOut:laidOutB Tryz.prog = true:=by kernel_rfl
theorem ncell_lt {w:World} {a:Addr} {v:Value} (h:w.cell? a = some v):a.block < w.heap.size:=by
 rcases Nat.lt_or_ge a.block w.heap.size with h1 | h1
 ·exact h1
 ·simp [World.cell?,Array.getElem?_eq_none h1] at h
theorem nlist4 {α:Type} {l:List α} (h:l.length = 4):∃ a b c d,l = [a,b,c,d]:=by
 rcases l with _ | ⟨a,_ | ⟨b,_ | ⟨c,_ | ⟨d,l⟩⟩⟩⟩ <;> simp at h
 subst h;exact ⟨a,b,c,d,rfl⟩
theorem ncellsSd:Tryz.prog.cellsOf 57 = 4:=by kernel_rfl
theorem ncellsSs:Tryz.prog.cellsOf 40 = 1:=by kernel_rfl
theorem ncellsInt:Tryz.prog.cellsOf 3 = 1:=by kernel_rfl
theorem nbytesSd:Tryz.prog.bytesOf 57 = 64:=by kernel_rfl
theorem nweightsAll_mem {H:Type} {P:Program} {e:TypeId} {d:DataW H} {n:Nat} (hn:n ∈ d.weights P e):∀ {l:List (DataW H)},d ∈ l → n ∈ DataW.weightsAll P e l
 | [],h=>by cases h
 | x :: r,h=>by
  simp only [DataW.weightsAll,List.mem_append]
  rcases List.mem_cons.1 h with rfl | h
  ·exact .inl hn
  ·exact .inr (nweightsAll_mem hn h)
theorem naddr_at (g o k:Nat):(⟨g,o,none⟩:Addr).add k = ⟨g,o + k,none⟩:=by unfold Addr.add;split <;> simp_all
theorem kcellsStr:Tryz.prog.cellsOf 9 = 1:=by kernel_rfl
theorem kbytesStr:Tryz.prog.bytesOf 9 = 16:=by kernel_rfl
theorem strings_open {H:Type} {enc:TypeId × Value → H} {W:World} {fuel:Nat} {v:Value} {x:DataW H × List MemPlace} (h:DataW.trod enc Tryz.prog W 0 (fun _=>true) true fuel 40 [v] = some x) :
  ∃ pp ss cp,v = .slice pp ss.length cp ∧ SRo W pp W.heap.size ss ∧ ((x.1.weights Tryz.prog 40).all (· ≤ reachBytes) = true → ss.length ≤ 140737488351232) ∧ ∀ s ∈ ss,s.size ≤ 9223372036854775807:=by
 rcases Go.Deep.open_slice Tryz.underlying40 h with ⟨hcs,hx⟩ | ⟨a,len,cap,m,n,D,Pl,hcs,_,hl,hm,hmm,hx,hel⟩
 ·obtain rfl:v = .slice none 0 0:=by simpa using hcs
  exact ⟨none,[],0,rfl,⟨fun i t ht=>by cases ht⟩,fun _=>by decide,fun s hs=>by cases hs⟩
 ·obtain rfl:v = .slice (some a) len cap:=by simpa using hcs
  simp only [if_true] at hmm
  subst m
  rw [kcellsStr] at hel
  have he:x.1 = .slice ((List.range len).map D) ((List.range (cap - len)).map fun j=>D (len + j)):=by rw [hx]
  have hwl:(x.1.weights Tryz.prog 40).all (· ≤ reachBytes) = true → len * 16 ≤ 140737488351232 * 16:=fun hw=>by
   rw [he] at hw
   have hwl:=List.all_eq_true.1 hw (((List.range len).map D).length + ((List.range (cap - len)).map fun j=>D (len + j)).length |> (· * Tryz.prog.bytesOf 9)) (by simp [DataW.weights,Tryz.underlying40])
   rw [kbytesStr] at hwl
   simp [reachBytes] at hwl
   omega
  have one:∀ i,i < len → ∃ t:ByteArray,W.cell? (a.add i) = some (.string t) ∧ t.size ≤ 9223372036854775807:=by
    intro i hi
    obtain ⟨cs',hc,ht⟩:=hel i (by omega)
    obtain ⟨_,hlen,hcell⟩:=World.cells?_some hc
    obtain ⟨c0,rfl⟩:=List.length_eq_one_iff.1 hlen
    obtain ⟨s0,h0,_,hsz⟩:=DataW.trod_string Tryz.underlying9 ht
    simp only [List.cons.injEq,and_true] at h0
    subst h0
    have g0:=hcell 0 (by decide)
    rw [Go.Deep.add_add,Nat.mul_one,Nat.add_zero] at g0
    exact ⟨s0,g0,by unfold maxLen at hsz;omega⟩
  haveI:Inhabited ByteArray:=⟨ByteArray.empty⟩
  obtain ⟨f,hf⟩:=Go.Deep.choose_lt one
  refine ⟨some a,(List.range len).map f,cap,by simp,⟨fun i t ht=>?_⟩,fun hw=>by have:=hwl hw;rw [List.length_map,List.length_range];omega,fun s hs=>?_⟩
  · rw [List.getElem?_map] at ht
    by_cases hi:i < len
    ·rw [List.getElem?_range hi] at ht
     cases ht
     obtain ⟨h0,_⟩:=hf i hi
     obtain ⟨g,o,spot⟩:=a
     have hspot:spot = none:=by simpa [Addr.add] using World.cell?_spot (hf 0 (by omega)).1
     subst hspot
     have hadd:(⟨g,o,none⟩:Addr).add i = ⟨g,o + i,none⟩:=by unfold Addr.add;split <;> simp_all
     rw [hadd] at h0
     exact ⟨g,o,rfl,ncell_lt (a:=⟨g,o + i,none⟩) h0,h0⟩
    ·rw [List.getElem?_eq_none (by simp;omega)] at ht
     cases ht
  · obtain ⟨i,hi,rfl⟩:=List.mem_map.1 hs
    exact (hf i (List.mem_range.1 hi)).2
theorem seeds_open {H:Type} {enc:TypeId × Value → H} {W:World} {fuel:Nat} {v:Value} {x:DataW H × List MemPlace} (h:DataW.trod enc Tryz.prog W 0 (fun _=>true) true fuel 22 [v] = some x)
  (hw:(x.1.weights Tryz.prog 22).all (· ≤ reachBytes) = true) :
  ∃ pp sd cp,v = .slice pp sd.length cp ∧ SdRow W pp W.heap.size sd ∧ SdOk sd:=by
 rcases Go.Deep.open_slice Tryz.underlying22 h with ⟨hcs,hx⟩ | ⟨a,len,cap,m,n,D,Pl,hcs,_,hl,hm,hmm,hx,hel⟩
 ·obtain rfl:v = .slice none 0 0:=by simpa using hcs
  exact ⟨none,[],0,rfl,⟨fun i t ht=>by cases ht⟩,by decide,fun e he=>by cases he⟩
 ·obtain rfl:v = .slice (some a) len cap:=by simpa using hcs
  simp only [if_true] at hmm
  subst m
  rw [ncellsSd] at hel
  have he:x.1 = .slice ((List.range len).map D) ((List.range (cap - len)).map fun j=>D (len + j)):=by rw [hx]
  rw [he] at hw
  have hwl:=List.all_eq_true.1 hw (((List.range len).map D).length + ((List.range (cap - len)).map fun j=>D (len + j)).length |> (· * Tryz.prog.bytesOf 57)) (by simp [DataW.weights,Tryz.underlying22])
  rw [nbytesSd] at hwl
  simp [reachBytes] at hwl
  have one:∀ i,i < len → ∃ t:Sd,∃ pa ca,W.cell? (a.add (i * 4)) = some (.int .i64 t.d) ∧ W.cell? (a.add (i * 4 + 1)) = some (.string t.nm) ∧ W.cell? (a.add (i * 4 + 2)) = some (.slice pa t.ats.length ca) ∧ W.cell? (a.add (i * 4 + 3)) = some (.string t.tx) ∧ SRo W pa W.heap.size t.ats ∧
    (t.ats.length ≤ 140737488351232 ∧ (-9223372036854775808 ≤ t.d ∧ t.d ≤ 9223372036854775807) ∧ t.nm.size ≤ 9223372036854775807 ∧ t.tx.size ≤ 9223372036854775807 ∧ ∀ s ∈ t.ats,s.size ≤ 9223372036854775807):=by
   intro i hi
   obtain ⟨cs',hc,ht⟩:=hel i (by omega)
   obtain ⟨_,hlen,hcell⟩:=World.cells?_some hc
   obtain ⟨c0,c1,c2,c3,rfl⟩:=nlist4 hlen
   obtain ⟨ys,k,_,hx',_,hyl,hfl⟩:=DataW.trod_struct Tryz.underlying57 ht
   obtain ⟨⟨e0,q0⟩,⟨e1,q1⟩,⟨e2,q2⟩,⟨e3,q3⟩,rfl⟩:=nlist4 hyl
   have f0:=hfl 0 _ rfl
   have f1:=hfl 1 _ rfl
   have f2:=hfl 2 _ rfl
   have f3:=hfl 3 _ rfl
   simp [kcellsStr,ncellsInt,ncellsSs] at f0 f1 f2 f3
   obtain ⟨z0,h0,_,b0⟩:=DataW.trod_int Tryz.underlying3 f0
   obtain ⟨s1,h1,_,z1⟩:=DataW.trod_string Tryz.underlying9 f1
   obtain ⟨s3,h3,_,z3⟩:=DataW.trod_string Tryz.underlying9 f3
   obtain ⟨pa,al,ca,h2,hA,hwt,hsz⟩:=strings_open f2
   simp only [List.cons.injEq,and_true] at h0 h1 h3
   subst h0 h1 h2 h3
   have g0:=hcell 0 (by decide)
   have g1:=hcell 1 (by decide)
   have g2:=hcell 2 (by decide)
   have g3:=hcell 3 (by decide)
   rw [Go.Deep.add_add] at g0 g1 g2 g3
   have bb:=bounds_i64 b0
   refine ⟨⟨z0,s1,al,s3⟩,pa,ca,g0,g1,g2,g3,hA,hwt ?_,⟨by show _ ≤ z0;omega,by show z0 ≤ _;omega⟩,by unfold maxLen at z1;show s1.size ≤ _;omega,by unfold maxLen at z3;show s3.size ≤ _;omega,hsz⟩
   refine List.all_eq_true.2 fun nn hnn=>List.all_eq_true.1 hw nn ?_
   have hD:D i = .agg [e0,e1,e2,e3]:=by
    have:=congrArg Prod.fst hx'
    simpa using this
   have hm1:nn ∈ (D i).weights Tryz.prog 57:=by
    rw [hD]
    simp only [DataW.weights,Tryz.underlying57]
    exact DataW.weights_mem_each (j:=2) rfl rfl nn hnn
   simp only [DataW.weights,Tryz.underlying22,List.mem_cons,List.mem_append]
   exact .inr (.inl (nweightsAll_mem hm1 (List.mem_map.2 ⟨i,List.mem_range.2 hi,rfl⟩)))
  haveI:Inhabited Sd:=⟨⟨0,ByteArray.empty,[],ByteArray.empty⟩⟩
  obtain ⟨f,hf⟩:=Go.Deep.choose_lt one
  refine ⟨some a,(List.range len).map f,cap,by simp,⟨fun i t ht=>?_⟩,?_,fun e he=>?_⟩
  ·rw [List.getElem?_map] at ht
   by_cases hi:i < len
   ·rw [List.getElem?_range hi] at ht
    cases ht
    obtain ⟨pa,ca,h0,h1,h2,h3,h5,_⟩:=hf i hi
    obtain ⟨g,o,spot⟩:=a
    have hspot:spot = none:=by
     obtain ⟨_,_,h00,_⟩:=hf 0 (by omega)
     simpa [Addr.add] using World.cell?_spot h00
    subst hspot
    rw [naddr_at] at h0 h1 h2 h3
    exact ⟨g,o,pa,ca,rfl,ncell_lt (a:=⟨g,o + i * 4,none⟩) h0,h0,h1,h2,h3,h5⟩
   ·rw [List.getElem?_eq_none (by simp;omega)] at ht
    cases ht
  ·rw [List.length_map,List.length_range];omega
  ·obtain ⟨i,hi,rfl⟩:=List.mem_map.1 he
   obtain ⟨_,_,_,_,_,_,_,h6⟩:=hf i (List.mem_range.1 hi)
   exact h6
theorem contract (H:Type) (enc:TypeId × Value → H) (W:World) (base:Nat) (args:Array Value) (ds gs:List (DataW H)) (before:List MemPlace)
  (hval:∀ (j:Nat) t v,Tryz.f6.params[j]? = some t → args[j]? = some v → Value.okWide Tryz.prog W .any base t v)
  (hW:DataW.Whole enc Tryz.prog Tryz.f6.params.toList Rows.treeThereSpec.vars false W args.toList ds gs before) (hwt:(DataW.weightsEach Tryz.prog (Tryz.f6.params.toList ++ Rows.treeThereSpec.plain.varTypes Tryz.prog) (ds ++ gs)).all (· ≤ reachBytes) = true) (hL:laidMetH Tryz.prog laid6 W) (hsh:W.ShapedOpen Tryz.prog) :
  Calls Tryz.prog 6 args W fun e W'=>∃ v,e = .returned v ∧ Rows.treeThereSpec.post enc Tryz.prog Tryz.f6 false true false false W args v W':=by
 have hW':=hW
 obtain ⟨p,q,hA0,hV,rfl,hfz,hnd⟩:=hW
 have hA:DataW.TrodAll enc Tryz.prog W 0 (fun _=>true) true Tryz.f6.params.toList args.toList ds p:=hA0
 have hwt':=hwt
 rw [Tryz.params6] at hA hval hwt'
 obtain ⟨v0,vs0,d0,ds0,p0,q0,hargs,rfl,rfl,h0,r0⟩:=trodAll_cons hA
 obtain ⟨v1,vs1,d1,ds1,p1,q1,rfl,rfl,rfl,h1,r1⟩:=trodAll_cons r0
 obtain ⟨v2,vs2,d2,ds2,p2,q2,rfl,rfl,rfl,h2,r2⟩:=trodAll_cons r1
 obtain ⟨rfl,rfl,rfl⟩:=trodAll_nil r2
 obtain rfl:args = #[v0,v1,v2]:=by cases args;simp_all
 obtain ⟨rfl,rfl⟩:=trodVars_none hV
 obtain ⟨a1,rfl,rfl,rfl,w1⟩:=open_int Tryz.underlying3 (hval 1 3 v1 rfl rfl) h1
 obtain ⟨s,rfl,rfl,rfl,hsz⟩:=open_string Tryz.underlying9 (hval 2 9 v2 rfl rfl) h2
 have h0k:=h0
 obtain ⟨fuel,hf⟩:=h0
 obtain ⟨ad,ln,cp0,rfl⟩:=okWide_slice Tryz.underlying22 (hval 0 22 v0 rfl rfl)
 have hcs:(Value.slice ad ln cp0).cells.toList = [Value.slice ad ln cp0]:=rfl
 rw [hcs] at hf
 have hw0:(d0.weights Tryz.prog 22).all (· ≤ reachBytes) = true:=List.all_eq_true.2 fun n hn=>List.all_eq_true.1 hwt' n (by
  simp only [DataW.weightsEach,List.cons_append,List.mem_append]
  exact .inl hn)
 obtain ⟨pp,sd,cp,hes,hS,hok⟩:=seeds_open hf hw0
 obtain ⟨hE,hT,h7⟩:=env_of_row hL hsh
 simp only [List.append_nil] at hW'
 have hlt:∀ x ∈ p0,x.block < W.heap.size:=fun x hx=>by simpa using hW'.lt x (by simpa using hx)
 rw [hes] at h0k hW' ⊢
 refine (TreeThere_any pp cp sd a1 s W hS hok ⟨hE,hT,h7⟩ (by unfold maxLen at hsz;omega)).mono fun e W' ⟨he,hg⟩=>?_
 subst he
 refine ⟨_,rfl,_,_,_,[],p0,[],by simpa using hW',?_,?_,?_,hg.frame _,fun h=>by cases h⟩
 ·exact trodAll_cons_mk (shut_bool Tryz.underlying4 _) trodAll_mk0
 ·have:=trodAll_cons_mk (Below.trod laidOut (by kernel_rfl) (of_decide_eq_true (by kernel_rfl)) h0k hg hlt) (trodAll_cons_mk (shut_int (w:=W') Tryz.underlying3 w1) (trodAll_cons_mk (shut_string Tryz.underlying9 hsz) trodAll_mk0))
  simp only [List.append_nil] at this
  exact this
 ·rfl
theorem reads (os:Os) {H:Type} (enc:TypeId × Value → H):∃ places,DataW.whole enc Tryz.prog ((World.laidAll Tryz.prog os laid6).forCall (fun _ _=>0) ⟨#[],#[.slice none 0 0,.int .i64 0,.string ⟨#[]⟩],[]⟩).memory Tryz.f6.params.toList Rows.treeThereSpec.vars false #[Value.slice none 0 0,Value.int .i64 0,Value.string ⟨#[]⟩].toList 8 = some ([.nil,.lit (.int .i64 0),.lit (.string [])],[],places) :=
 ⟨[],by kernel_rfl⟩
theorem met (os:Os):laidMet Tryz.prog laid6 ((World.laidAll Tryz.prog os laid6).forCall (fun _ _=>0) ⟨#[],#[.slice none 0 0,.int .i64 0,.string ⟨#[]⟩],[]⟩).memory:=laidMet_laidAll _ (by kernel_rfl) (by kernel_rfl)
theorem lifted (os:Os) (started:os.Started) (H:Type) (enc:TypeId × Value → H) (F:Stop.Interp) :
  ReturnsInHanded {} Tryz.checked os 6 .any ((OpenSpec.ofChange Rows.treeThereSpec).preRow enc Tryz.prog Tryz.f6 Rows.treeThereRow.domain false Rows.treeThereRow.laid) (((OpenSpec.ofChange Rows.treeThereSpec).at F).post enc Tryz.prog Tryz.f6 false true false false):=by
 obtain ⟨places,hx⟩:=reads os enc
 refine returnsInHanded_of_row (C:=Tryz.checked) (s:=OpenSpec.ofChange Rows.treeThereSpec) own started (by kernel_rfl) Tryz.func6
  (witness_zip (enc:=enc) (C:=Tryz.checked) (World.laidAll Tryz.prog os laid6) #[.slice none 0 0,.int .i64 0,.string ⟨#[]⟩] (World.laidAll_os _ _ _) (by kernel_rfl) (by kernel_rfl) (by kernel_rfl)
   (OpenSpec.preRow_of_cond 8 hx (by kernel_rfl) (fun k hk=>by cases hk) (by kernel_rfl) (met os))) ?_
 intro W base args ds gs before hval hW _ _ hwt hL hsh _
 exact contract H enc W base args ds gs before hval hW hwt hL hsh
theorem said:Rows.TreeThereSaid :=
 OpenClaim.holds_of_cond 6 Tryz.f6 rfl rfl rfl rfl rfl rfl rfl ⟨rfl,rfl,rfl,rfl,rfl⟩ rfl rfl rfl rfl rfl (by kernel_rfl) Tryz.func6 (by kernel_rfl)
  (of_decide_eq_true (by kernel_rfl)) (by unfold Func.isWrapper;first | (rw [if_pos (by decide +kernel)];kernel_rfl) | (rw [if_neg (by decide +kernel)];exact ⟨rfl,rfl⟩))
  (fun os started H enc _ F=>by rw [OpenClaim.pre_eq_preRow];exact lifted os started H enc F)
theorem plain (f:FuncId) (fn:Func) (hf:Tryz.pinned.checked.prog.funcNamed "stencil/stencillaw05.TreeThere" = some f) (hfn:Tryz.pinned.checked.prog.funcs[f]? = some fn) :
  true = Tryz.pinned.checked.prog.looks [] ∧ ∀ (j:Nat) t,fn.params[j]? = some t → Tryz.pinned.checked.prog.wantsStandIn t = false:=by
 obtain rfl:f = 6:=Option.some.inj ((show Tryz.prog.funcNamed "stencil/stencillaw05.TreeThere" = some 6 by kernel_rfl).symm.trans hf) |>.symm
 obtain rfl:fn = Tryz.f6:=(Option.some.inj (Tryz.func6.symm.trans hfn)).symm
 refine ⟨by kernel_rfl,fun j t ht=>?_⟩
 rw [Tryz.params6] at ht
 have h:t = 22 ∨ t = 3 ∨ t = 9:=by
  have:=Array.mem_of_getElem? ht
  simpa using this
 rcases h with rfl | rfl | rfl
 ·exact (show Tryz.prog.wantsStandIn 22 = false by kernel_rfl)
 ·exact (show Tryz.prog.wantsStandIn 3 = false by kernel_rfl)
 ·exact (show Tryz.prog.wantsStandIn 9 = false by kernel_rfl)
end ThereLaw
theorem treeThere_card:Rows.TreeThereCardSaid :=
 Claim7.holds_tied_plain_at .later [] _ _ _ _ ThereLaw.said (fun _ h=>by cases h) (by kernel_rfl) (fun _ h=>by cases h) treeThere_row_tie rfl ⟨rfl,rfl⟩ (by kernel_rfl) rfl ThereLaw.plain (by kernel_rfl)
#print axioms treeThere_card
end Go.Proofs.YtchfphakhmifmabGreatDoor

import Derived.Test.YtjnafpefolgcoaaGreatDoorK37
namespace Go.Proofs.YtjnafpefolgcoaaGreatDoor
set_option maxRecDepth 1000000
set_option maxHeartbeats 16000000
open Go.ChangeShapes Go.WideShapes Go.ChangeAt Go.RowKit Go.Shelf Go.Maps
theorem od_ext {a b:Od} (h1:a.at_=b.at_) (h2:a.stg=b.stg) (h3:a.en=b.en) (h4:a.snc=b.snc) (h5:a.row=b.row):a=b:=by
 cases a;cases b
 simp only at h1 h2 h3 h4 h5
 subst h1 h2 h3 h4 h5
 rfl
theorem stg_b {l:List Tk} {sc:Sc} {n:Nat} (h:sc.kids.length<=n) (hn:n<=733007751850):0<=stgO l sc/\stgO l sc<=1000000000000:=by
 unfold stgO
 split
 ·split
  ·omega
  ·split<;>omega
 ·split
  ·split<;>omega
  ·omega
theorem all_at {f:Fm} {i:Nat} {sc:Sc} {r:List Sc} {x:Od} (hA:∀ a∈sc::r,ScOk f.toks i a) (h:x.at_=sc.at_):∀ y∈r.reverse.map (odOf f.toks)++[x],y.at_<f.toks.length:=by
 intro y hy
 rcases List.mem_append.1 hy with hy|hy
 ·obtain⟨a,ha,rfl⟩:=List.mem_map.1 hy
  exact(List.getElem?_eq_some_iff.1 (hA a (List.mem_cons_of_mem _ (List.mem_reverse.1 ha))).tk).1
 ·rw[List.mem_singleton.1 hy,h]
  exact(List.getElem?_eq_some_iff.1 (hA sc (List.mem_cons_self ..)).tk).1
theorem takes_doc {c:Df} {f:Fm} {sc:Sc} {r:List Sc} {t:Tk} {ids:List Int} {vi:Value} {w:World} (H:Inv f c.i ⟨sc::r,ids⟩) (hS:Srt (sc::r)) (ht:f.toks[c.i]?=some t) (he:edO t.op=false) (hkl:sc.kids.length<=c.i) (h:Dt w c f (r.reverse.map (odOf f.toks)) (odOf f.toks sc) sc.tk t ids vi) :
  Calls Tryz.prog 16 #[.pointer (some ⟨c.B,0,none⟩),.int .i64 (c.i:Int)] w fun rr w'=>∃ b,rr = .returned (.bool b)/\(b=true↔inOk f (sc::r) ids c.i sc t=true)/\Kb (c.go::c.B::vi.ownBlock.toList) w w'/\(b=true->∃ vi',Dt w' c f (r.reverse.map (odOf f.toks)) (odOf f.toks (metX sc c.i t)) sc.tk t (if ptO t.op then ids++[t.id] else ids) vi'):=by
 have hx:=H.all sc (List.mem_cons_self ..)
 have hmd:=may_doc (op:=t.op) hx he
 have hll:=h.ll
 have hil:=h.il
 have hids:ids.length<=c.i:=H.ids
 have hsb:=stg_b (l:=f.toks) hkl (by omega)
 by_cases hN:mayD sc.tk.op (odOf f.toks sc).stg t.op=true/\plainB t=true/\symbolB t.name=true/\(if bgO t.op then pairB f.toks c.i t else decide (t.pair=c.i))=true
 case neg =>
  refine(refTakes_no c f _ _ _ t ids vi w h hN).mono fun rr w' hh=>⟨false,hh.1,⟨(fun e=>by cases e),fun e=>?_⟩,Kb.of_below hh.2,fun e=>by cases e⟩
  exfalso
  obtain⟨h1,h2,h3,h4,h5,_⟩:=inOk_in e he
  refine hN ⟨hmd.trans h1,h2,h3,?_⟩
  cases hb:bgO t.op with
  | true=>rw[if_pos rfl];exact h4 hb
  | false=>rw[if_neg (by decide)];exact decide_eq_true (h5 hb)
 obtain⟨n1,n2,n3,n4⟩:=hN
 have hm:mayB f.toks sc t.op=true:=hmd.symm.trans n1
 rw[inOk_rul (o:=sc::r) (ids:=ids) he hm n2 n3 n4]
 have hty:=may_typ hm he hx.beg
 have hod:=od_met hx ht hm he
 have part:∀ {k:Int},t.op=k->(k=2\/k=4\/k=6)->(sc.tk.op=0\/sc.tk.op=4)/\ptO t.op=true/\tyO t.op=false:=fun e hk=>by
  have ht2:tyO t.op=false:=by unfold tyO;exact decide_eq_false (by omega)
  rcases hty with ⟨h1,h2,_⟩|⟨_,_,h2⟩|⟨_,h2⟩|⟨_,⟨_,h2⟩|⟨_,h2⟩⟩
  ·exact⟨h1,h2,ht2⟩
  ·rw[ht2] at h2;cases h2
  ·rw[ht2] at h2;cases h2
  ·omega
  ·omega
 by_cases k2:t.op=2
 ·obtain⟨hpo,hpt,hnt⟩:=part k2 (.inl rfl)
  obtain⟨u,hu⟩:∃ u,f.toks[c.i+1]?=some u:=by
   have hb:bgO t.op=true:=by rw[k2];rfl
   rw[hb,if_pos rfl] at n4
   obtain⟨n,v,hn,hlt,hll,_⟩:=pairB_get n4
   exact⟨f.toks[c.i+1]'(by omega),List.getElem?_eq_getElem (by omega)⟩
  have hrul:rulB f (sc::r) ids c.i sc t=(newB f.toks ids sc t&&fldR f c.i sc t):=by unfold rulB;rw[if_pos k2,fld_split]
  rw[hrul,hpt,if_pos rfl]
  have hm2:odOf f.toks (metX sc c.i t)={ odOf f.toks sc with snc:=t.since,en:=if t.pres≠2/\0<t.siz then t.off+t.siz else (odOf f.toks sc).en }:=by
   rw[hod]
   refine od_ext rfl ?_ ?_ ?_ ?_
   ·show (if t.op=4 then (1:Int) else if t.op=6 then 2 else if tyO t.op then stgO f.toks sc+1 else stgO f.toks sc)=stgO f.toks sc
    rw[if_neg (by omega),if_neg (by omega),hnt,if_neg (by decide)]
   ·show (if 0<t.siz/\((t.op=2/\t.pres≠2)\/sc.tk.op=8) then t.off+t.siz else sc.e0)=if t.pres≠2/\0<t.siz then t.off+t.siz else sc.e0
    have:(0<t.siz/\((t.op=2/\t.pres≠2)\/sc.tk.op=8))↔(t.pres≠2/\0<t.siz):=by omega
    simp only[this]
   ·show (if t.op=2 then t.since else sc.fld)=t.since
    rw[if_pos k2]
   ·show (if (t.op=4\/t.op=6)/\sc.tk.op≠4 then t.since else sc.row)=sc.row
    rw[if_neg (by omega)]
  rw[hm2]
  refine(refTakes_p 2 _ c f _ (odOf f.toks sc) _ _ sc.tk t ids vi w (newB f.toks ids sc t=true) (fldR f c.i sc t=true) (fun w'=>∃ vi',Dt w' c f (r.reverse.map (odOf f.toks)) { odOf f.toks sc with snc:=t.since,en:=if t.pres≠2/\0<t.siz then t.off+t.siz else (odOf f.toks sc).en } sc.tk t (ids++[t.id]) vi') h k2 (.inl ⟨rfl,rfl,rfl⟩) n1 n2 n3 n4 (by omega) (fun W hW=>named_doc hW rfl H hS)
   (fun W hW=>refFielded_any c f _ (odOf f.toks sc) sc.tk t u ids vi W _ _ hW hu ⟨fldR_iff hx.e0.1 hx.fld hx.blk.1 hu⟩ ⟨fun _ hd=>hd⟩) ⟨fun _ vi' hd=>⟨vi',hd⟩⟩).mono ?_
  rintro rr w' ⟨b,e,hb,hk,hq⟩
  exact⟨b,e,by rw[hb,Bool.and_eq_true],hk,hq⟩
 by_cases k4:t.op=4
 ·obtain⟨hpo,hpt,hnt⟩:=part k4 (by omega)
  have hrul:rulB f (sc::r) ids c.i sc t=(newB f.toks ids sc t&&grpR f (sc::r) sc t):=by unfold rulB;rw[if_neg k2,if_pos k4,grp_split]
  rw[hrul,hpt,if_pos rfl]
  by_cases hp4:sc.tk.op=4
  ·skip
   have hm2:odOf f.toks (metX sc c.i t)={ odOf f.toks sc with stg:=1 }:=by
    rw[hod]
    refine od_ext rfl ?_ ?_ ?_ ?_
    ·show (if t.op=4 then (1:Int) else if t.op=6 then 2 else if tyO t.op then stgO f.toks sc+1 else stgO f.toks sc)=1
     rw[if_pos k4]
    ·show (if 0<t.siz/\((t.op=2/\t.pres≠2)\/sc.tk.op=8) then t.off+t.siz else sc.e0)=sc.e0
     rw[if_neg (by omega)]
    ·show (if t.op=2 then t.since else sc.fld)=sc.fld
     rw[if_neg k2]
    ·show (if (t.op=4\/t.op=6)/\sc.tk.op≠4 then t.since else sc.row)=sc.row
     rw[if_neg (by omega)]
   rw[hm2]
   refine(refTakes_p 4 _ c f _ (odOf f.toks sc) _ { odOf f.toks sc with stg:=1 } sc.tk t ids vi w (newB f.toks ids sc t=true) (grpR f (sc::r) sc t=true) (fun w'=>∃ vi',Dt w' c f (r.reverse.map (odOf f.toks)) { odOf f.toks sc with stg:=1 } sc.tk t (ids++[t.id]) vi') h k4 (.inr (.inl ⟨rfl,rfl,rfl⟩)) n1 n2 n3 n4 (by omega) (fun W hW=>named_doc hW rfl H hS)
    (fun W hW=>refRowed_gg c f _ { odOf f.toks sc with stg:=1 } sc.tk t ids vi W _ _ hW hp4 k4 (all_at H.all rfl) ⟨by
     unfold grpR
     rw[Bool.and_eq_true,Bool.and_eq_true,rowB_iff hx.row,blkB_iff,cnt_sc (sc:=sc) H.all rfl]
     simp only[Bool.and_eq_true,decide_eq_true_eq]
     simp[hp4,and_assoc]⟩ ⟨fun _ hd=>hd⟩) ⟨fun _ vi' hd=>⟨vi',hd⟩⟩).mono ?_
   rintro rr w' ⟨b,e,hb,hk,hq⟩
   exact⟨b,e,by rw[hb,Bool.and_eq_true],hk,hq⟩
  ·skip
   have hm2:odOf f.toks (metX sc c.i t)={ ({ odOf f.toks sc with stg:=1 }:Od) with row:=t.since }:=by
    rw[hod]
    refine od_ext rfl ?_ ?_ ?_ ?_
    ·show (if t.op=4 then (1:Int) else if t.op=6 then 2 else if tyO t.op then stgO f.toks sc+1 else stgO f.toks sc)=1
     rw[if_pos k4]
    ·show (if 0<t.siz/\((t.op=2/\t.pres≠2)\/sc.tk.op=8) then t.off+t.siz else sc.e0)=sc.e0
     rw[if_neg (by omega)]
    ·show (if t.op=2 then t.since else sc.fld)=sc.fld
     rw[if_neg k2]
    ·show (if (t.op=4\/t.op=6)/\sc.tk.op≠4 then t.since else sc.row)=t.since
     rw[if_pos ⟨by omega,hp4⟩]
   rw[hm2]
   refine(refTakes_p 4 _ c f _ (odOf f.toks sc) _ { ({ odOf f.toks sc with stg:=1 }:Od) with row:=t.since } sc.tk t ids vi w (newB f.toks ids sc t=true) (grpR f (sc::r) sc t=true) (fun w'=>∃ vi',Dt w' c f (r.reverse.map (odOf f.toks)) { ({ odOf f.toks sc with stg:=1 }:Od) with row:=t.since } sc.tk t (ids++[t.id]) vi') h k4 (.inr (.inl ⟨rfl,rfl,rfl⟩)) n1 n2 n3 n4 (by omega) (fun W hW=>named_doc hW rfl H hS)
    (fun W hW=>refRowed_mg c f _ { odOf f.toks sc with stg:=1 } sc.tk t ids vi W _ _ hW hp4 k4 (all_at H.all rfl) ⟨by
     unfold grpR
     rw[Bool.and_eq_true,Bool.and_eq_true,rowB_iff hx.row,blkB_iff,cnt_sc (sc:=sc) H.all rfl]
     simp only[Bool.and_eq_true,decide_eq_true_eq]
     simp[hp4,and_assoc,odOf]⟩ ⟨fun _ hd=>hd⟩) ⟨fun _ vi' hd=>⟨vi',hd⟩⟩).mono ?_
   rintro rr w' ⟨b,e,hb,hk,hq⟩
   exact⟨b,e,by rw[hb,Bool.and_eq_true],hk,hq⟩
 by_cases k6:t.op=6
 ·obtain⟨hpo,hpt,hnt⟩:=part k6 (by omega)
  have hrul:rulB f (sc::r) ids c.i sc t=(newB f.toks ids sc t&&datR f sc t):=by unfold rulB;rw[if_neg k2,if_neg k4,if_pos k6,dat_split]
  rw[hrul,hpt,if_pos rfl]
  by_cases hp4:sc.tk.op=4
  ·skip
   have hm2:odOf f.toks (metX sc c.i t)={ odOf f.toks sc with stg:=2 }:=by
    rw[hod]
    refine od_ext rfl ?_ ?_ ?_ ?_
    ·show (if t.op=4 then (1:Int) else if t.op=6 then 2 else if tyO t.op then stgO f.toks sc+1 else stgO f.toks sc)=2
     rw[if_neg k4,if_pos k6]
    ·show (if 0<t.siz/\((t.op=2/\t.pres≠2)\/sc.tk.op=8) then t.off+t.siz else sc.e0)=sc.e0
     rw[if_neg (by omega)]
    ·show (if t.op=2 then t.since else sc.fld)=sc.fld
     rw[if_neg k2]
    ·show (if (t.op=4\/t.op=6)/\sc.tk.op≠4 then t.since else sc.row)=sc.row
     rw[if_neg (by omega)]
   rw[hm2]
   refine(refTakes_p 6 _ c f _ (odOf f.toks sc) _ { odOf f.toks sc with stg:=2 } sc.tk t ids vi w (newB f.toks ids sc t=true) (datR f sc t=true) (fun w'=>∃ vi',Dt w' c f (r.reverse.map (odOf f.toks)) { odOf f.toks sc with stg:=2 } sc.tk t (ids++[t.id]) vi') h k6 (.inr (.inr ⟨rfl,rfl,rfl⟩)) n1 n2 n3 n4 (by omega) (fun W hW=>named_doc hW rfl H hS)
    (fun W hW=>refRowed_gd c f _ { odOf f.toks sc with stg:=2 } sc.tk t ids vi W _ _ hW hp4 k6 ⟨by
     unfold datR
     rw[Bool.and_eq_true,rowB_iff hx.row]
     simp only[Bool.and_eq_true,decide_eq_true_eq]
     simp[hp4,and_assoc]⟩ ⟨fun _ hd=>hd⟩) ⟨fun _ vi' hd=>⟨vi',hd⟩⟩).mono ?_
   rintro rr w' ⟨b,e,hb,hk,hq⟩
   exact⟨b,e,by rw[hb,Bool.and_eq_true],hk,hq⟩
  ·skip
   have hm2:odOf f.toks (metX sc c.i t)={ ({ odOf f.toks sc with stg:=2 }:Od) with row:=t.since }:=by
    rw[hod]
    refine od_ext rfl ?_ ?_ ?_ ?_
    ·show (if t.op=4 then (1:Int) else if t.op=6 then 2 else if tyO t.op then stgO f.toks sc+1 else stgO f.toks sc)=2
     rw[if_neg k4,if_pos k6]
    ·show (if 0<t.siz/\((t.op=2/\t.pres≠2)\/sc.tk.op=8) then t.off+t.siz else sc.e0)=sc.e0
     rw[if_neg (by omega)]
    ·show (if t.op=2 then t.since else sc.fld)=sc.fld
     rw[if_neg k2]
    ·show (if (t.op=4\/t.op=6)/\sc.tk.op≠4 then t.since else sc.row)=t.since
     rw[if_pos ⟨by omega,hp4⟩]
   rw[hm2]
   refine(refTakes_p 6 _ c f _ (odOf f.toks sc) _ { ({ odOf f.toks sc with stg:=2 }:Od) with row:=t.since } sc.tk t ids vi w (newB f.toks ids sc t=true) (datR f sc t=true) (fun w'=>∃ vi',Dt w' c f (r.reverse.map (odOf f.toks)) { ({ odOf f.toks sc with stg:=2 }:Od) with row:=t.since } sc.tk t (ids++[t.id]) vi') h k6 (.inr (.inr ⟨rfl,rfl,rfl⟩)) n1 n2 n3 n4 (by omega) (fun W hW=>named_doc hW rfl H hS)
    (fun W hW=>refRowed_md c f _ { odOf f.toks sc with stg:=2 } sc.tk t ids vi W _ _ hW hp4 k6 ⟨by
     unfold datR
     rw[Bool.and_eq_true,rowB_iff hx.row]
     simp only[Bool.and_eq_true,decide_eq_true_eq]
     simp[hp4,and_assoc,odOf]⟩ ⟨fun _ hd=>hd⟩) ⟨fun _ vi' hd=>⟨vi',hd⟩⟩).mono ?_
   rintro rr w' ⟨b,e,hb,hk,hq⟩
   exact⟨b,e,by rw[hb,Bool.and_eq_true],hk,hq⟩
 have hnp:ptO t.op=false:=by unfold ptO;exact decide_eq_false (by omega)
 rw[hnp,if_neg (by decide)]
 have typ:tyO t.op=true->(sc.tk.op=2\/sc.tk.op=8\/sc.tk.op=10\/sc.tk.op=12)/\((sc.tk.op=10\/sc.tk.op=12)->t.op=14):=fun e=>by
  have e':=e
  unfold tyO at e'
  have e':=decT e'
  rcases hty with ⟨_,h2,_⟩|⟨h1,_⟩|⟨h1,_⟩|⟨h1,⟨_,h2⟩|⟨_,h2⟩⟩
  ·rw[hnp] at h2;cases h2
  ·exact⟨by omega,by omega⟩
  ·exact⟨by omega,by omega⟩
  ·exact⟨by omega,by omega⟩
  ·omega
 have hmt:tyO t.op=true->odOf f.toks (metX sc c.i t)={ ({ odOf f.toks sc with en:=if sc.tk.op=8/\0<t.siz then t.off+t.siz else (odOf f.toks sc).en }:Od) with stg:=(odOf f.toks sc).stg+1 }:=fun e=>by
  rw[hod]
  refine od_ext rfl ?_ ?_ ?_ ?_
  ·show (if t.op=4 then (1:Int) else if t.op=6 then 2 else if tyO t.op then stgO f.toks sc+1 else stgO f.toks sc)=stgO f.toks sc+1
   rw[if_neg k4,if_neg k6,if_pos e]
  ·show (if 0<t.siz/\((t.op=2/\t.pres≠2)\/sc.tk.op=8) then t.off+t.siz else sc.e0)=if sc.tk.op=8/\0<t.siz then t.off+t.siz else sc.e0
   have:(0<t.siz/\((t.op=2/\t.pres≠2)\/sc.tk.op=8))↔(sc.tk.op=8/\0<t.siz):=by omega
   simp only[this]
  ·show (if t.op=2 then t.since else sc.fld)=sc.fld
   rw[if_neg k2]
  ·show (if (t.op=4\/t.op=6)/\sc.tk.op≠4 then t.since else sc.row)=sc.row
   rw[if_neg (by omega)]
 by_cases k8:t.op=8
 ·have hy:tyO t.op=true:=by rw[k8];rfl
  have hrul:rulB f (sc::r) ids c.i sc t=cmpB (sc::r) sc t:=by unfold rulB;rw[if_neg k2,if_neg k4,if_neg k6,if_pos k8]
  rw[hrul,hmt hy]
  refine(refTakes_8 c f _ (odOf f.toks sc) { odOf f.toks sc with en:=if sc.tk.op=8/\0<t.siz then t.off+t.siz else (odOf f.toks sc).en } sc.tk t ids vi w (plcB sc t=true) (fun w'=>∃ vi',Dt w' c f (r.reverse.map (odOf f.toks)) { ({ odOf f.toks sc with en:=if sc.tk.op=8/\0<t.siz then t.off+t.siz else (odOf f.toks sc).en }:Od) with stg:=(odOf f.toks sc).stg+1 } sc.tk t ids vi') h k8 n1 n2 n3 n4 hsb rfl (fun W hW=>fitted_doc hW hx rfl (typ hy).1) (cntD f.toks 8 (r.reverse.map (odOf f.toks)++[{ odOf f.toks sc with en:=if sc.tk.op=8/\0<t.siz then t.off+t.siz else (odOf f.toks sc).en }])) (fun W hW=>refCount_any c f _ _ sc.tk t ids vi 8 W hW (all_at H.all rfl)) ⟨fun _ hd=>⟨vi,hd⟩⟩).mono ?_
  rintro rr w' ⟨b,e,hb,hk,hq⟩
  exact⟨b,e,by rw[hb,cnt_sc (sc:=sc) H.all rfl];unfold cmpB;rw[Bool.and_eq_true,decide_eq_true_eq];exact and_comm,kb_go hk,hq⟩
 by_cases k10:t.op=10
 ·have hy:tyO t.op=true:=by rw[k10];rfl
  have hrul:rulB f (sc::r) ids c.i sc t=plcB sc t:=by unfold rulB;rw[if_neg k2,if_neg k4,if_neg k6,if_neg k8,if_pos (.inl k10)]
  rw[hrul,hmt hy]
  refine(refTakes_10 c f _ (odOf f.toks sc) { odOf f.toks sc with en:=if sc.tk.op=8/\0<t.siz then t.off+t.siz else (odOf f.toks sc).en } sc.tk t ids vi w (plcB sc t=true) (fun w'=>∃ vi',Dt w' c f (r.reverse.map (odOf f.toks)) { ({ odOf f.toks sc with en:=if sc.tk.op=8/\0<t.siz then t.off+t.siz else (odOf f.toks sc).en }:Od) with stg:=(odOf f.toks sc).stg+1 } sc.tk t ids vi') h k10 n1 n2 n3 n4 hsb rfl (fun W hW=>fitted_doc hW hx rfl (typ hy).1) ⟨fun _ hd=>⟨vi,hd⟩⟩).mono ?_
  rintro rr w' ⟨b,e,hb,hk,hq⟩
  exact⟨b,e,by rw[hb];simp,kb_go hk,hq⟩
 by_cases k12:t.op=12
 ·have hy:tyO t.op=true:=by rw[k12];rfl
  have hrul:rulB f (sc::r) ids c.i sc t=plcB sc t:=by unfold rulB;rw[if_neg k2,if_neg k4,if_neg k6,if_neg k8,if_pos (.inr k12)]
  rw[hrul,hmt hy]
  refine(refTakes_12 c f _ (odOf f.toks sc) { odOf f.toks sc with en:=if sc.tk.op=8/\0<t.siz then t.off+t.siz else (odOf f.toks sc).en } sc.tk t ids vi w (plcB sc t=true) (fun w'=>∃ vi',Dt w' c f (r.reverse.map (odOf f.toks)) { ({ odOf f.toks sc with en:=if sc.tk.op=8/\0<t.siz then t.off+t.siz else (odOf f.toks sc).en }:Od) with stg:=(odOf f.toks sc).stg+1 } sc.tk t ids vi') h k12 n1 n2 n3 n4 hsb rfl (fun W hW=>fitted_doc hW hx rfl (typ hy).1) ⟨fun _ hd=>⟨vi,hd⟩⟩).mono ?_
  rintro rr w' ⟨b,e,hb,hk,hq⟩
  exact⟨b,e,by rw[hb];simp,kb_go hk,hq⟩
 by_cases k14:t.op=14
 ·have hy:tyO t.op=true:=by rw[k14];rfl
  have hrul:rulB f (sc::r) ids c.i sc t=encB sc t:=by unfold rulB;rw[if_neg k2,if_neg k4,if_neg k6,if_neg k8,if_neg (by omega),if_pos k14]
  rw[hrul,hmt hy]
  refine(refTakes_14 c f _ (odOf f.toks sc) { odOf f.toks sc with en:=if sc.tk.op=8/\0<t.siz then t.off+t.siz else (odOf f.toks sc).en } sc.tk t ids vi w (plcB sc t=true) (fun w'=>∃ vi',Dt w' c f (r.reverse.map (odOf f.toks)) { ({ odOf f.toks sc with en:=if sc.tk.op=8/\0<t.siz then t.off+t.siz else (odOf f.toks sc).en }:Od) with stg:=(odOf f.toks sc).stg+1 } sc.tk t ids vi') h k14 n1 n2 n3 n4 hsb rfl (fun W hW=>fitted_doc hW hx rfl (typ hy).1) ⟨fun _ hd=>⟨vi,hd⟩⟩).mono ?_
  rintro rr w' ⟨b,e,hb,hk,hq⟩
  exact⟨b,e,by rw[hb,enc_split,Bool.and_eq_true],kb_go hk,hq⟩
 have k15:t.op=15/\(sc.tk.op=10\/sc.tk.op=12)/\sc.kids≠[]:=by
  rcases hty with ⟨_,h2,_⟩|⟨_,_,h2⟩|⟨_,h2⟩|⟨h1,⟨_,h2⟩|⟨h3,h2⟩⟩
  ·rw[hnp] at h2;cases h2
  ·unfold tyO at h2;have:=decT h2;omega
  ·unfold tyO at h2;have:=decT h2;omega
  ·omega
  ·exact⟨h2,h1,h3⟩
 obtain⟨k15,hpo,hkn⟩:=k15
 obtain⟨hkr,hv⟩:=H.nest.2.1 hpo
 obtain⟨v,hv,_⟩:=hv hkn
 have hne:tyO t.op=false:=by rw[k15];rfl
 have hm2:odOf f.toks (metX sc c.i t)=odOf f.toks sc:=by
  rw[hod]
  refine od_ext rfl ?_ ?_ ?_ ?_
  ·show (if t.op=4 then (1:Int) else if t.op=6 then 2 else if tyO t.op then stgO f.toks sc+1 else stgO f.toks sc)=stgO f.toks sc
   rw[if_neg k4,if_neg k6,hne,if_neg (by decide)]
  ·show (if 0<t.siz/\((t.op=2/\t.pres≠2)\/sc.tk.op=8) then t.off+t.siz else sc.e0)=sc.e0
   rw[if_neg (by omega)]
  ·show (if t.op=2 then t.since else sc.fld)=sc.fld
   rw[if_neg k2]
  ·show (if (t.op=4\/t.op=6)/\sc.tk.op≠4 then t.since else sc.row)=sc.row
   rw[if_neg (by omega)]
 have hxi:sc.at_+2<=c.i:=by
  have hlt:=hx.lt
  have:sc.kids.length≠0:=fun e=>hkn (List.length_eq_zero_iff.1 e)
  rw[hkr,List.length_range'] at this
  omega
 have hcod:codP f.toks sc=v.prim:=by
  unfold codP
  rw[if_pos ⟨hpo,fun e=>hkn (List.length_eq_zero_iff.1 e)⟩,hv]
 have hrul:rulB f (sc::r) ids c.i sc t=choB f.toks sc t:=by unfold rulB;rw[if_neg k2,if_neg k4,if_neg k6,if_neg k8,if_neg (by omega),if_neg k14]
 have hno:=cho_no (l:=f.toks) (t:=t) hkr
 rw[hrul,hm2]
 have key:∀ C:Prop,(choB f.toks sc t=true↔((0<=t.since/\t.since<=65534)/\C/\∀ k,sc.at_+2<=k->k<c.i->∀ u,f.toks[k]?=some u->¬ (u.name=t.name\/u.val=t.val)))->(∀ W,Dt W c f (r.reverse.map (odOf f.toks)) (odOf f.toks sc) sc.tk t ids vi->Calls Tryz.prog 38 #[.pointer (some ⟨c.B,0,none⟩),.int .i64 (c.i:Int),.pointer (some ⟨c.go,(r.reverse.map (odOf f.toks)).length*5,none⟩)] W fun r w'=>Ans r (choB f.toks sc t=true)/\Below W.heap.size W w')->Calls Tryz.prog 16 #[.pointer (some ⟨c.B,0,none⟩),.int .i64 (c.i:Int)] w fun rr w'=>∃ b,rr = .returned (.bool b)/\(b=true↔choB f.toks sc t=true)/\Kb (c.go::c.B::vi.ownBlock.toList) w w'/\(b=true->∃ vi',Dt w' c f (r.reverse.map (odOf f.toks)) (odOf f.toks sc) sc.tk t ids vi'):=fun C _ cF=>by
  refine(refTakes_15 c f _ (odOf f.toks sc) sc.tk t ids vi w (choB f.toks sc t=true) h k15 n1 n2 n3 n4 cF).mono ?_
  rintro rr w' ⟨⟨b,e,hb⟩,hbl⟩
  exact⟨b,e,hb,Kb.of_below hbl,fun _=>⟨vi,h.below hbl⟩⟩
 rcases hpo with e10|e12
 ·have hC:choB f.toks sc t=true↔((0<=t.since/\t.since<=65534)/\fitsP v.prim t.val=true/\∀ k,sc.at_+2<=k->k<c.i->∀ u,f.toks[k]?=some u->¬ (u.name=t.name\/u.val=t.val)):=by
   rw[<- hno]
   unfold choB bet
   rw[if_neg (by omega),hcod]
   simp only[Bool.and_eq_true,decide_eq_true_eq,Bool.not_eq_true']
   constructor
   ·rintro⟨⟨⟨a,b⟩,c⟩,d⟩;exact⟨a,d,b,c⟩
   ·rintro⟨a,d,b,c⟩;exact⟨⟨⟨a,b⟩,c⟩,d⟩
  exact key _ hC fun W hW=>refChosen_10 c f _ (odOf f.toks sc) sc.tk t v ids vi W _ hW e10 hv hxi ⟨hC⟩
 ·have hC:choB f.toks sc t=true↔((0<=t.since/\t.since<=65534)/\t.val<8*sz v.prim/\∀ k,sc.at_+2<=k->k<c.i->∀ u,f.toks[k]?=some u->¬ (u.name=t.name\/u.val=t.val)):=by
   rw[<- hno]
   unfold choB bet
   rw[if_pos e12,hcod]
   simp only[Bool.and_eq_true,decide_eq_true_eq,Bool.not_eq_true']
   constructor
   ·rintro⟨⟨⟨a,b⟩,c⟩,d⟩;exact⟨a,d,b,c⟩
   ·rintro⟨a,d,b,c⟩;exact⟨⟨⟨a,b⟩,c⟩,d⟩
  exact key _ hC fun W hW=>refChosen_12 c f _ (odOf f.toks sc) sc.tk t v ids vi W _ hW e12 hv hxi ⟨hC⟩
theorem end_iff {f:Fm} {o:List Sc} {ids:List Int} {i:Nat} {x:Sc} {t:Tk} (hx:ScOk f.toks i x) (ht:f.toks[i]?=some t) (he:edO t.op=true) :
  inOk f o ids i x t=true↔(plainB t=true/\t.op=x.tk.op+1/\t.name=x.tk.name/\t.pair=x.at_/\x.tk.pair=i/\(0<stgO f.toks x\/(x.tk.op≠2/\x.tk.op≠10/\x.tk.op≠12))):=by
 have hb:=hx.beg
 unfold bgO at hb
 have hb:=decT hb
 have he':=he
 unfold edO at he'
 have he':=decT he'
 have hno:ptO t.op=false:=by unfold ptO;exact decide_eq_false (by omega)
 have hnt:tyO t.op=false:=by unfold tyO;exact decide_eq_false (by omega)
 have hone:=hx.one
 have hmay:(t.op=x.tk.op+1/\(0<stgO f.toks x\/(x.tk.op≠2/\x.tk.op≠10/\x.tk.op≠12)))↔mayB f.toks x t.op=true:=by
  unfold mayB stgO
  by_cases h0:x.tk.op=0\/x.tk.op=4
  ·rw[if_pos h0,if_pos h0,hno]
   simp
   omega
  rw[if_neg h0,if_neg h0]
  by_cases h2:x.tk.op=2
  ·rw[if_pos h2,if_neg (by omega),hnt]
   have:=hone h2
   simp only[Bool.and_false,Bool.false_or,Bool.and_eq_true,decide_eq_true_eq]
   omega
  rw[if_neg h2]
  by_cases h10:x.tk.op=10\/x.tk.op=12
  ·rw[if_pos h10,if_pos h10]
   by_cases hk:x.kids.length=0
   ·simp[hk]
    omega
   ·simp[hk]
    omega
  rw[if_neg h10,if_neg h10]
  by_cases h8:x.tk.op=8
  ·rw[if_pos h8,hnt]
   simp
   omega
  ·rw[if_neg h8]
   simp
   omega
 constructor
 ·intro h
  obtain⟨h1,h2,h3,h4,h5⟩:=inOk_end h he
  obtain⟨h6,h7⟩:=hmay.2 h1
  obtain⟨n,u,hn,_,_,hu,_,hnm,_⟩:=pairB_get hx.pr
  have:n=i:=by omega
  subst this
  rw[ht] at hu
  cases hu
  exact⟨h2,h6,hnm,h4,h5,h7⟩
 ·rintro⟨h1,h2,h3,h4,h5,h6⟩
  unfold inOk
  rw[if_pos he,hmay.1 ⟨h2,h6⟩,h1,h3,hx.sym]
  simp[h4,h5]
structure Dw (w:World) (c:Df) (f:Fm) (o:List Sc) (ids:List Int) (vo vi:Value):Prop where
 ds:DsH w c.B f (some ⟨c.g,c.o,none⟩) c.cp vo vi
 op:w.ownsRow c.H 58 5 vo o.length (odCs (o.reverse.map (odOf f.toks)))
 ir:w.ownsRow c.H 3 1 vi ids.length (idC ids)
 tl:TkL w (some ⟨c.g,c.o,none⟩) c.H f.toks
 g:c.g<c.H
 B:c.H<=c.B
 oB:vo.ownBlock≠some c.B
 iB:vi.ownBlock≠some c.B
 oi:∀ k,vi.ownBlock=some k->vo.ownBlock≠some k
 sz:c.H<=w.heap.size
 ln:o.length<=1000000000000
theorem Dw.below {w w':World} {c:Df} {f:Fm} {o:List Sc} {ids:List Int} {vo vi:Value} (h:Dw w c f o ids vo vi) (hb:Below w.heap.size w w'):Dw w' c f o ids vo vi :=
 ⟨h.ds.same (hb.block _ h.ds.lt),own_alloc2 h.op hb,own_alloc2 h.ir hb,h.tl.below (hb.mono h.sz),h.g,h.B,h.oB,h.iB,h.oi,Nat.le_trans h.sz hb.size,h.ln⟩
theorem Dw.dt {w:World} {c:Df} {f:Fm} {sc:Sc} {r:List Sc} {ids:List Int} {vo vi:Value} {t:Tk} (h:Dw w c f (sc::r) ids vo vi) (ht:f.toks[c.i]?=some t) (hx:f.toks[sc.at_]?=some sc.tk) :
  ∃ go cap,vo = .slice (some ⟨go,0,none⟩) (r.length+1) cap/\Dt w { c with go:=go,cap:=cap } f (r.reverse.map (odOf f.toks)) (odOf f.toks sc) sc.tk t ids vi:=by
 rcases h.op.2 with ⟨_,h0⟩|⟨go,cap,cur,e,hb',hg,h1,h2,h3,h4⟩
 ·cases h0
 ·have hl:(r.reverse.map (odOf f.toks)).length=r.length:=by simp
  have hcs:(sc::r).reverse.map (odOf f.toks)=r.reverse.map (odOf f.toks)++[odOf f.toks sc]:=by simp
  refine⟨go,cap,e,⟨?_,⟨cur,hg,?_,h2,h3,?_⟩,h.ir,h.tl,hx,ht,⟨h.g,h.B,hb',fun e2=>h.oB ?_,h.iB,fun e2=>h.oi _ e2 ?_⟩,h.sz,?_⟩⟩
  ·have:=h.ds
   rw[e] at this
   rw[hl]
   exact this
  ·rw[List.length_append,hl]
   exact h1
  ·rw[List.length_append,hl,<- hcs]
   exact h4
  ·rw[e]
   show some go=some c.B
   rw[e2]
  ·rw[e]
   rfl
  ·rw[hl]
   have:=h.ln
   rw[List.length_cons] at this
   omega
theorem Dt.dw {w:World} {c:Df} {f:Fm} {sc:Sc} {r:List Sc} {ids:List Int} {vi:Value} {xt t:Tk} (h:Dt w c f (r.reverse.map (odOf f.toks)) (odOf f.toks sc) xt t ids vi):Dw w c f (sc::r) ids (.slice (some ⟨c.go,0,none⟩) (r.length+1) c.cap) vi:=by
 have hl:(r.reverse.map (odOf f.toks)).length=r.length:=by simp
 have hcs:(sc::r).reverse.map (odOf f.toks)=r.reverse.map (odOf f.toks)++[odOf f.toks sc]:=by simp
 have a:=h.ap
 have hds:=h.ds
 rw[hl] at hds
 have how:=h.op.owns (base:=c.H) a.go
 rw[<- hcs] at how
 have e3:((sc::r).reverse.map (odOf f.toks)).length=r.length+1:=by simp
 rw[e3] at how
 refine⟨hds,how,h.ir,h.tl,a.g,a.B,fun e=>a.Bo ?_,a.iB,fun k hk e=>a.io ?_,h.sz,?_⟩
 ·have:c.go=c.B:=by simpa[Value.ownBlock] using e
  exact this.symm
 ·rw[hk]
  have:c.go=k:=by simpa[Value.ownBlock] using e
  rw[this]
 ·have:=h.ln
  rw[hl] at this
  rw[List.length_cons]
  omega
theorem odCs_one (l:List Od):∀ u∈odCs l,u.oneCell'=true:=by
 intro u hu
 obtain⟨a,_,h⟩:=List.mem_flatMap.1 hu
 exact odC_one a u h
theorem o_ap {W:World} {base:Nat} {v:Value} {al bl:List Od} {ad:Addr} (cb:Nat) (own:W.ownsRow base 58 5 v al.length (odCs al)) (hB:∀ (j:Nat) (u:Value),(odCs bl)[j]?=some u->W.cell? (ad.add j)=some u) (hl:al.length+bl.length<=977343669134) (hb:base<=W.heap.size) :
  ∃ v' w',(∀ ty,(Builtin.append_ #[44,44] ty #[v,.slice (some ad) bl.length cb]).run Tryz.prog W = .ok v' w')/\(w'.ownsRow base 58 5 v' (al++bl).length (odCs (al++bl))/\W.grownBy w' v.ownBlock/\(v'.ownBlock=v.ownBlock\/v'.ownBlock=some W.heap.size)):=by
 obtain⟨i0,hi,hz,hs,hby⟩:=infoOf 58 (.agg #[.int .i64 0,.int .i64 0,.int .i64 0,.int .i64 0,.int .i64 0]) 5 40 (by kernel_rfl)
 have hr:=fun ty=>run_append_own_at (P:=Tryz.prog) W base 44 ty 58 i0 _ 5 40 Tryz.underlying44 hi hz hs hby rfl (by decide) v al.length (odCs al) own ad bl.length cb (odCs bl) (odCs_length bl) hB (odCs_one bl) (by simp only[maxLen];omega) (by omega) hb
 obtain⟨v',w',h1,h2,h3,_,h4⟩:=hr 0
 refine⟨v',w',fun ty=>?_,by rw[List.length_append,odCs_append];exact h2,h3,h4⟩
 have e:(Builtin.append_ #[44,44] ty #[v,.slice (some ad) bl.length cb])=(Builtin.append_ #[44,44] 0 #[v,.slice (some ad) bl.length cb]):=rfl
 rw[e]
 exact h1
theorem lit5 {W:World} {gB:Nat} {x:Od} {ty:TypeId} (h:W.heap[gB]?=some (.cells (odC x).toArray ty)):∀ (j:Nat) (u:Value),(odCs [x])[j]?=some u->W.cell? ((⟨gB,0,none⟩:Addr).add j)=some u:=by
 intro j u hu
 have e:(⟨gB,0,none⟩:Addr).add j=⟨gB,0+j,none⟩:=by unfold Addr.add;split<;>simp_all
 rw[e,Nat.zero_add,cell_at h]
 unfold odCs at hu
 rw[List.flatMap_cons,List.flatMap_nil,List.append_nil] at hu
 simpa using hu
theorem od_scNew (l:List Tk) (i:Nat) (t:Tk):odOf l (scNew i t)=⟨i,0,0,t.since,t.since⟩:=by
 have h1:lastOp l (scNew i t)=0:=rfl
 have h2:(scNew i t).kids.length=0:=rfl
 unfold odOf stgO
 rw[h1,h2]
 show (⟨i,_,0,t.since,t.since⟩:Od)=_
 congr 1
 split
 ·rfl
 ·split<;>rfl
theorem own_low5 {w:World} {H n z:Nat} {ty:TypeId} {v:Value} {xs:List Value} (h:w.ownsRow H ty z v n xs):∀ k,v.ownBlock=some k->H<=k/\k<w.heap.size:=by
 intro k hk
 rcases h.2 with ⟨h0,_⟩|⟨g,cap,cur,e,hb',hg,_⟩
 ·rw[h0] at hk;cases hk
 ·rw[e] at hk
  have:g=k:=by simpa[Value.ownBlock] using hk
  subst this
  exact⟨hb',(Array.getElem?_eq_some_iff.1 hg).1⟩
theorem own_same {w w':World} {H n z:Nat} {ty:TypeId} {v:Value} {xs:List Value} (h:w.ownsRow H ty z v n xs) (hb:∀ k,v.ownBlock=some k->w'.heap[k]?=w.heap[k]?):w'.ownsRow H ty z v n xs:=by
 refine⟨h.1,?_⟩
 rcases h.2 with h0|⟨g,cap,cur,e,hb',hg,r⟩
 ·exact .inl h0
 ·exact .inr ⟨g,cap,cur,e,hb',(hb g (by rw[e];rfl)).trans hg,r⟩
theorem push_doc {we Wp w':World} {c:Df} {f:Fm} {o:List Sc} {ids:List Int} {vo vi v':Value} {s:Sc} (h:Dw we c f o ids vo vi) (hW:Below we.heap.size we Wp) (hl:o.length+1<=1000000000000) (q1:w'.ownsRow c.H 58 5 v' (o.length+1) (odCs (o.reverse.map (odOf f.toks)++[odOf f.toks s]))) (q2:Wp.grownBy w' vo.ownBlock) (q3:v'.ownBlock=vo.ownBlock\/v'.ownBlock=some Wp.heap.size) :
  Dw (w'.setCell ⟨c.B,13,none⟩ v') c f (s::o) ids v' vi/\Below c.H we (w'.setCell ⟨c.B,13,none⟩ v'):=by
 have hs:=hW.size
 have hBl:=h.ds.lt
 have key:∀ j,j<we.heap.size->vo.ownBlock≠some j->w'.heap[j]?=we.heap[j]?:=fun j hj hn=>(q2.block j (by omega) (fun e=>hn e.symm)).trans (hW.block j hj)
 have low:∀ j,j<c.H->w'.heap[j]?=we.heap[j]?:=fun j hj=>key j (by have:=h.sz;omega) (fun e=>by have:=own_low5 h.op j e;omega)
 have nB:v'.ownBlock≠some c.B:=fun e=>by
  rcases q3 with q|q
  ·exact h.oB (q▸e)
  ·rw[q] at e;have:Wp.heap.size=c.B:=by simpa using e
   omega
 have hsz:we.heap.size<=(w'.setCell ⟨c.B,13,none⟩ v').heap.size:=by
  show we.heap.size<=(w'.heap.modify c.B _).size
  rw[Array.size_modify]
  exact Nat.le_trans hs q2.size
 refine⟨⟨(h.ds.same (key _ hBl h.oB)).setO v',?_,?_,⟨h.tl.row.same fun j hj=>(set_oth (by have:=h.B;omega)).trans (low j hj),h.tl.len,h.tl.ok⟩,h.g,h.B,nB,h.iB,?_,Nat.le_trans h.sz hsz,hl⟩,⟨q2.os.trans hW.os,q2.tape.trans hW.tape,q2.output.trans hW.output,hsz,fun j hj=>(set_oth (by have:=h.B;omega)).trans (low j hj)⟩⟩
 ·have e:(s::o).reverse.map (odOf f.toks)=o.reverse.map (odOf f.toks)++[odOf f.toks s]:=by simp
  rw[e]
  exact own_same q1 (fun k hk=>set_oth fun e=>nB (e▸hk))
 ·refine own_same h.ir fun k hk=>?_
  have hk2:=own_low5 h.ir k hk
  have hne:c.B≠k:=fun e=>h.iB (by rw[hk,e])
  exact(set_oth hne).trans (key k hk2.2 (h.oi k hk))
 ·intro k hk e
  have hk2:=own_low5 h.ir k hk
  rcases q3 with q|q
  ·exact h.oi k hk (q▸e)
  ·rw[q] at e;have:Wp.heap.size=k:=by simpa using e
   omega
theorem pop_doc {w:World} {c:Df} {f:Fm} {sc:Sc} {r:List Sc} {ids:List Int} {vi:Value} {go cap:Nat} (h:Dw w c f (sc::r) ids (.slice (some ⟨go,0,none⟩) (r.length+1) cap) vi) :
  Dw (w.setCell ⟨c.B,13,none⟩ (.slice (some ⟨go,0,none⟩) r.length cap)) c f r ids (.slice (some ⟨go,0,none⟩) r.length cap) vi/\Below c.H w (w.setCell ⟨c.B,13,none⟩ (.slice (some ⟨go,0,none⟩) r.length cap)):=by
 have hsz:(w.setCell ⟨c.B,13,none⟩ (.slice (some ⟨go,0,none⟩) r.length cap)).heap.size=w.heap.size:=by
  show (w.heap.modify c.B _).size=_
  rw[Array.size_modify]
 have hn:(.slice (some ⟨go,0,none⟩) r.length cap:Value).ownBlock≠some c.B:=fun e=>h.oB e
 have low:∀ j,j<c.H->(w.setCell ⟨c.B,13,none⟩ (.slice (some ⟨go,0,none⟩) r.length cap)).heap[j]?=w.heap[j]?:=fun j hj=>set_oth (by have:=h.B;omega)
 refine⟨⟨h.ds.setO _,?_,own_same h.ir (fun k hk=>set_oth fun e=>h.iB (e▸hk)),⟨h.tl.row.same low,h.tl.len,h.tl.ok⟩,h.g,h.B,hn,h.iB,fun k hk e=>h.oi k hk e,by rw[hsz];exact h.sz,by have:=h.ln;rw[List.length_cons] at this;omega⟩,⟨rfl,rfl,rfl,by rw[hsz];exact Nat.le_refl _,low⟩⟩
 rcases h.op.2 with ⟨h0,_⟩|⟨g,cap',cur,e,hb',hg,h1,h2,h3,h4⟩
 ·cases h0
 ·have e1:g=go/\cap'=cap:=by injection e with e1 e2 e3;injection e1 with e1;injection e1 with e1 _ _;exact⟨e1.symm,e3.symm⟩
  obtain⟨rfl,rfl⟩:=e1
  have e5:(sc::r).reverse.map (odOf f.toks)=r.reverse.map (odOf f.toks)++[odOf f.toks sc]:=by simp
  have hR:OdR w g cap' (r.reverse.map (odOf f.toks)++[odOf f.toks sc]):=⟨cur,hg,by simp;simpa using h1,h2,h3,by rw[<- e5];simpa using h4⟩
  have hR2:OdR (w.setCell ⟨c.B,13,none⟩ (.slice (some ⟨g,0,none⟩) r.length cap')) g cap' (r.reverse.map (odOf f.toks)):=hR.less.same (set_oth fun e=>h.oB (by show some g=some c.B;rw[e]))
  have:=hR2.owns hb'
  rw[List.length_map,List.length_reverse] at this
  exact this
end Go.Proofs.YtjnafpefolgcoaaGreatDoor

import Derived.Test.YtjlbcdnkglaheaaGreatDoorK10
import Derived.Shelf.Pu.Clone
namespace Go.Proofs.YtjlbcdnkglaheaaGreatDoor
set_option maxRecDepth 1000000
set_option maxHeartbeats 16000000
open Go.ChangeShapes Go.WideShapes Go.ChangeAt Go.RowKit Go.Shelf Go.Maps
theorem Op4.cut {W:World} {go cap k:Nat} {zs:List (Nat×Lv)} (h:Op4 W go cap zs) (hk:k<=zs.length):Op4 W go cap (zs.take k):=by
 obtain⟨cur,h1,h2,h3,h4,h5⟩:=h
 have hl:(zs.take k).length=k:=by rw[List.length_take];omega
 refine⟨cur,h1,by omega,h3,h4,?_⟩
 rw[hl,<- lvCs_take,<- h5,List.take_take,Nat.min_eq_left (by omega)]
theorem SM.cut {W:World} {a go cap k:Nat} {zs:List (Nat×Lv)} {ent:Int} (h:SM W a go cap k zs ent):SM W a go cap (zs.take k).length (zs.take k) ent:=by
 have hl:(zs.take k).length=k:=by rw[List.length_take];have:=h.kl;omega
 refine⟨by rw[hl];exact h.c,h.o.cut h.kl,Nat.le_refl _,by rw[hl];exact h.k1,h.ne,by have:=h.zl;have:=h.kl;omega⟩
theorem tops_cut (zs:List (Nat×Lv)) (k:Nat):tops (zs.take k) (zs.take k).length=tops zs k:=by
 unfold tops
 rw[List.take_length]
theorem tops_set {zs:List (Nat×Lv)} {n:Nat} {y y':Nat×Lv} (h:zs[n]?=some y):tops (zs.set n y') (n+1)=y'.2::tops zs n:=by
 have hl:=(List.getElem?_eq_some_iff.1 h).1
 rw[tops_succ (y:=y') (by rw[List.getElem?_set_self hl])]
 congr 1
 unfold tops
 rw[List.take_set_of_le (Nat.le_refl _)]
theorem set_same {α:Type} {l:List α} {n:Nat} {x:α} (h:l[n]?=some x):l.set n x=l:=by
 obtain⟨hl,e⟩:=List.getElem?_eq_some_iff.1 h
 rw[<- e,List.set_getElem_self]
theorem okp_of {l:List Tk} {W w':World} {a go cap n lo hi:Nat} {zs:List (Nat×Lv)} {ent ent':Int} {y:Nat×Lv} {x':Lv} (hT:TM l W a go cap n lo hi zs ent y) (hP:∀ z∈zs,PtA l W lo hi z.1 z.2.p) (hx:x'.p=y.2.p) (hS:SM w' a go cap (n+1) (zs.set n (y.1,x')) ent') (hK:Kb [a,go] W w'):OkP l a go lo hi ⟨x'::tops zs n,ent'⟩ W w':=by
 refine⟨go,cap,_,hS.cut,fun z hz=>?_,(tops_cut _ _).trans (tops_set hT.ey),.inl rfl,hK⟩
 have hb:∀ k,lo<=k->k<hi->w'.heap[k]?=W.heap[k]?:=fun k h1 h2=>hK.block k (by have:=hT.gl;have:=hT.s.lt.2;omega) (by have:=hT.gl;have:=hT.al;simp;omega)
 rcases List.mem_or_eq_of_mem_set (List.mem_of_mem_take hz) with h|rfl
 ·exact(hP z h).same hb
 ·have:=hT.p.same hb
  rw[<- hx] at this
  exact this
theorem okp_push {l:List Tk} {W w':World} {a go cap n lo hi:Nat} {zs:List (Nat×Lv)} {ent ent':Int} {y:Nat×Lv} {x' x:Lv} {g' go' cap':Nat} (hT:TM l W a go cap n lo hi zs ent y) (hP:∀ z∈zs,PtA l W lo hi z.1 z.2.p) (hx:x'.p=y.2.p) (hS:SM w' a go' cap' (n+2) ((zs.set n (y.1,x')).take (n+1)++[(g',x)]) ent') (hg:PtA l w' lo hi g' x.p) (ho:go'=go\/W.heap.size<=go') (hK:Kb [a,go] W w'):OkP l a go lo hi ⟨x::x'::tops zs n,ent'⟩ W w':=by
 have hl:=(List.getElem?_eq_some_iff.1 hT.ey).1
 have hl1:((zs.set n (y.1,x')).take (n+1)).length=n+1:=by rw[List.length_take,List.length_set];omega
 have hl2:((zs.set n (y.1,x')).take (n+1)++[(g',x)]).length=n+2:=by rw[List.length_append,hl1];rfl
 refine⟨go',cap',_,hS.len hl2.symm,fun z hz=>?_,?_,ho,hK⟩
 ·have hb:∀ k,lo<=k->k<hi->w'.heap[k]?=W.heap[k]?:=fun k h1 h2=>hK.block k (by have:=hT.gl;have:=hT.s.lt.2;omega) (by have:=hT.gl;have:=hT.al;simp;omega)
  rcases List.mem_append.1 hz with hz|hz
  ·rcases List.mem_or_eq_of_mem_set (List.mem_of_mem_take hz) with h|rfl
   ·exact(hP z h).same hb
   ·have:=hT.p.same hb
    rw[<- hx] at this
    exact this
  ·cases List.mem_singleton.1 hz
   exact hg
 ·rw[hl2,tops_succ (y:=(g',x)) (by rw[List.getElem?_append_right (by omega),hl1];simp)]
  congr 1
  rw[<- tops_set (y':=(y.1,x')) hT.ey]
  unfold tops
  rw[List.take_append_of_le_length (by omega),List.take_take,Nat.min_self]
theorem erp_of {l:List Tk} {W w':World} {a go cap n lo hi:Nat} {zs:List (Nat×Lv)} {ent:Int} {y:Nat×Lv} {x':Lv} (hT:TM l W a go cap n lo hi zs ent y) (hS:SM w' a go cap (n+1) (zs.set n (y.1,x')) ent) (hK:Kb [a,go] W w'):ErP a go cap n zs ent y W w':=by
 have hl:=(List.getElem?_eq_some_iff.1 hT.ey).1
 exact⟨_,(y.1,x'),hS,by rw[List.getElem?_set_self hl],by rw[List.set_set];exact set_same hT.ey,hK⟩
theorem erp_same {l:List Tk} {W w':World} {a go cap n lo hi:Nat} {zs:List (Nat×Lv)} {ent:Int} {y:Nat×Lv} (hT:TM l W a go cap n lo hi zs ent y) (hb:Below W.heap.size W w'):ErP a go cap n zs ent y W w':=⟨zs,y,hT.s.below hb,hT.ey,set_same hT.ey,Kb.of_below hb⟩
theorem stepZ_err (l:List Tk) (s:Ms) (k cnt:Int) (nm:ByteArray):(stepZ l s k cnt nm).1≠0->(stepZ l s k cnt nm).2=s:=by
 unfold stepZ
 split
 ·exact fun _=>rfl
 ·split
  ·exact fun _=>rfl
  ·split
   ·exact fun _=>rfl
   ·split
    ·split
     ·exact fun _=>rfl
     ·exact fun h=>absurd rfl h
    ·split
     ·exact fun _=>rfl
     ·split
      ·exact fun h=>absurd rfl h
      ·split
       ·exact fun _=>rfl
       ·split
        ·exact fun _=>rfl
        ·exact fun h=>absurd rfl h
theorem step_any (l:List Tk) (a go cap lo hi:Nat) (zs:List (Nat×Lv)) (ent:Int) (c:Cl) (w:World) (h:MaF l w a go cap lo hi zs ent) (hco:i64ok c.cnt) (hnm:c.nm.size<=maxLen) (hzl:zs.length+1<=1000000) :
  Calls Tryz.prog 27 #[.pointer (some ⟨a,0,none⟩),caV c] w fun r w'=>r = .returned (.int .i64 (stepZ l ⟨tops zs zs.length,ent⟩ c.k c.cnt c.nm).1)/\OkP l a go lo hi (stepZ l ⟨tops zs zs.length,ent⟩ c.k c.cnt c.nm).2 w w':=by
 have hsame:∀ w',SM w' a go cap zs.length zs ent->Kb [a,go] w w'->OkP l a go lo hi ⟨tops zs zs.length,ent⟩ w w':=fun w' hS hK=>⟨go,cap,zs,hS,fun z hz=>(h.p z hz).same fun k h1 h2=>hK.block k (by have:=h.gl;have:=h.s.lt.2;omega) (by have:=h.gl;have:=h.al;simp;omega),rfl,.inl rfl,hK⟩
 have hlv:∀ {n:Nat} {y:Nat×Lv},zs[n]?=some y->LvOk l y.2:=fun {n y} hy=>h.ok.all _ (by show y.2∈tops zs zs.length;unfold tops;rw[List.take_length];exact List.mem_map.2 ⟨y,List.mem_reverse.2 (List.mem_of_getElem? hy),rfl⟩)
 obtain⟨S,hS⟩:∃ S,stepZ l ⟨tops zs zs.length,ent⟩ c.k c.cnt c.nm=S:=⟨_,rfl⟩
 have hSe:S.1≠0->S.2=⟨tops zs zs.length,ent⟩:=by rw[<- hS];exact stepZ_err l _ _ _ _
 rw[hS]
 have hfin:∀ {F:FuncId} {W:World},(S.1≠0->S.2=⟨tops zs zs.length,ent⟩)->(Calls Tryz.prog F #[.pointer (some ⟨a,0,none⟩),caV c] W fun r w'=>r = .returned (.int .i64 S.1)/\(S.1≠0->SM w' a go cap zs.length zs ent/\Kb [a,go] w w')/\(S.1=0->OkP l a go lo hi S.2 w w'))->Calls Tryz.prog F #[.pointer (some ⟨a,0,none⟩),caV c] W fun r w'=>r = .returned (.int .i64 S.1)/\OkP l a go lo hi S.2 w w':=by
  intro F W hq hc
  refine hc.mono ?_
  rintro r w' ⟨rfl,h1,h2⟩
  refine⟨rfl,?_⟩
  by_cases h0:S.1=0
  ·exact h2 h0
  ·rw[hq h0]
   exact hsame w' (h1 h0).1 (h1 h0).2
 by_cases hk:c.k<0\/4<=c.k
 ·unfold stepZ at hS
  rw[if_pos hk] at hS
  subst hS
  refine(step_no a c w hk).mono ?_
  rintro r w' ⟨rfl,hb⟩
  exact⟨rfl,hsame w' (h.s.below hb) (Kb.of_below hb)⟩
 ·unfold stepZ at hS
  rw[if_neg hk] at hS
  by_cases h0:c.k=0
  ·rw[if_pos h0] at hS
   obtain⟨n,hn⟩:∃ n,zs.length=n+1:=⟨zs.length-1,by have:=h.s.k1;omega⟩
   obtain⟨y,hy⟩:∃ y,zs[n]?=some y:=⟨zs[n]'(by omega),List.getElem?_eq_getElem (by omega)⟩
   have ht:tops zs zs.length=y.2::tops zs n:=by rw[hn];exact tops_succ hy
   simp only[ht,if_pos h0] at hS
   refine hfin (fun _=>by rw[<- hS,ht]) (step_zer l a go cap lo hi zs ent c w h h0 S.1 S.2 fun W n' y' hT hP hn'=>?_)
   obtain rfl:n'=n:=by omega
   obtain rfl:y'=y:=by have:=hT.ey;rw[hy] at this;exact(Option.some.inj this).symm
   refine(field_any l a go cap n' lo hi zs ent y' c W hT hnm).mono ?_
   rintro r w' ⟨rfl,hb⟩
   subst hS
   refine⟨rfl,fun _=>erp_same hT hb,fun _=>?_⟩
   have:=okp_of (x':=y'.2) hT hP rfl (by rw[set_same hT.ey];exact hT.s.below hb) (Kb.of_below hb)
   exact this
  ·rw[if_neg h0] at hS
   obtain⟨kk,hkk⟩:∃ kk:Nat,c.k=(kk:Int):=⟨c.k.toNat,by omega⟩
   have hk1:1<=kk:=by omega
   have hk4:kk<4:=by omega
   have hrl:=fun {n:Nat} {y:Nat×Lv} (hy:zs[n]?=some y)=>h.rl y (List.mem_of_getElem? hy)
   have hq:S.1≠0->S.2=⟨tops zs zs.length,ent⟩:=hSe
   have hent:0<=ent/\ent<=65536:=⟨h.ok.e0,h.ok.e1⟩
   obtain rfl|rfl|rfl:kk=1\/kk=2\/kk=3:=by omega
   ·refine hfin hq (step_gen l a go cap lo hi zs ent c w h 1 70 hkk hk1 hk4 rfl ent_group S.1 S.2 fun W n y hT hP hL=>?_)
    have e1:c.k=1:=hkk
    rw[hL,tops_succ hT.ey] at hS
    have ho:=hlv hT.ey
    have hll:=hrl hT.ey
    have n2:¬ c.k=2:=by omega
    have n3:¬ c.k=3:=by omega
    simp only[if_neg h0,if_neg n2,if_neg n3] at hS
    cases hm:memZ l y.2 c.k c.nm with
    | none =>
     rw[hm] at hS
     refine(group_none l a go cap n lo hi zs ent y c W hT ho hll hm).mono ?_
     rintro r w' ⟨rfl,hb⟩
     subst hS
     exact⟨rfl,fun _=>erp_same hT hb,fun e=>by simp at e⟩
    | some q =>
     rw[hm] at hS
     simp only at hS
     by_cases hc:c.cnt<0\/gmax (bpAt l q)<c.cnt
     ·rw[if_pos hc] at hS
      refine(group_count l a go cap n lo hi zs ent y c W hT ho hll q hm hc hco).mono ?_
      rintro r w' ⟨rfl,hs,hk⟩
      subst hS
      exact⟨rfl,fun _=>erp_of hT hs (hk.mono (by simp)),fun e=>by simp at e⟩
     ·rw[if_neg hc] at hS
      by_cases hx:65536-ent<c.cnt
      ·rw[if_pos hx] at hS
       refine(group_many l a go cap n lo hi zs ent y c W hT ho hll q hm hc hx hent hco).mono ?_
       rintro r w' ⟨rfl,hs,hk⟩
       subst hS
       exact⟨rfl,fun _=>erp_of hT hs (hk.mono (by simp)),fun e=>by simp at e⟩
      ·rw[if_neg hx] at hS
       by_cases hp:0<c.cnt
       ·rw[if_pos hp] at hS
        refine(group_push l a go cap n lo hi zs ent y c W hT ho hll q hm hc hx hent hco hp (by have:=(List.getElem?_eq_some_iff.1 hT.ey).1;omega)).mono ?_
        rintro r w' ⟨rfl,g',go',cap',hs,hg,ho',hk⟩
        subst hS
        exact⟨rfl,fun e=>absurd rfl e,fun _=>okp_push (x:=⟨q,c.cnt,false,0⟩) hT hP rfl hs hg ho' hk⟩
       ·rw[if_neg hp] at hS
        refine(group_zero l a go cap n lo hi zs ent y c W hT ho hll q hm hc hx hent hco hp).mono ?_
        rintro r w' ⟨rfl,hs,hk⟩
        subst hS
        exact⟨rfl,fun e=>absurd rfl e,fun _=>okp_of (x':=⟨y.2.p,y.2.left,y.2.begun,y.2.come+1⟩) hT hP rfl hs hk⟩
   ·refine hfin hq (step_gen l a go cap lo hi zs ent c w h 2 71 hkk hk1 hk4 rfl ent_next S.1 S.2 fun W n y hT hP hL=>?_)
    have e2:c.k=2:=hkk
    rw[hL,tops_succ hT.ey] at hS
    simp only[if_neg h0,if_pos e2] at hS
    refine(next_any l a go cap n lo hi zs ent y c W hT (hlv hT.ey)).mono ?_
    rintro r w' ⟨h1,h2⟩
    by_cases hc:y.2.left=0\/(y.2.begun=true/\wholeB l y.2=false)
    ·rw[if_pos hc] at hS
     obtain⟨rfl,hb⟩:=h1 hc
     subst hS
     exact⟨rfl,fun _=>erp_same hT hb,fun e=>by simp at e⟩
    ·rw[if_neg hc] at hS
     obtain⟨rfl,hs,hk⟩:=h2 hc
     subst hS
     exact⟨rfl,fun e=>absurd rfl e,fun _=>okp_of (x':=⟨y.2.p,y.2.left-1,true,0⟩) hT hP rfl hs (hk.mono (by simp))⟩
   ·refine hfin hq (step_gen l a go cap lo hi zs ent c w h 3 72 hkk hk1 hk4 rfl ent_data S.1 S.2 fun W n y hT hP hL=>?_)
    have e3:c.k=3:=hkk
    have n2:¬ c.k=2:=by omega
    rw[hL,tops_succ hT.ey] at hS
    simp only[if_neg h0,if_neg n2,if_pos e3] at hS
    refine(data_any l a go cap n lo hi zs ent y c W hT (hlv hT.ey) (hrl hT.ey)).mono ?_
    rintro r w' ⟨h1,h2⟩
    cases hm:memZ l y.2 c.k c.nm with
    | none =>
     rw[hm] at hS
     obtain⟨rfl,hb⟩:=h1 hm
     subst hS
     exact⟨rfl,fun _=>erp_same hT hb,fun e=>by simp at e⟩
    | some q =>
     rw[hm] at hS
     obtain⟨rfl,hs,hk⟩:=h2 (by rw[hm];exact fun e=>nomatch e)
     subst hS
     exact⟨rfl,fun e=>absurd rfl e,fun _=>okp_of (x':=⟨y.2.p,y.2.left,y.2.begun,y.2.come+1⟩) hT hP rfl hs (hk.mono (by simp))⟩
theorem done_all (l:List Tk) (zs:List (Nat×Lv)) (ent:Int):doneB l ⟨tops zs zs.length,ent⟩=zs.all fun y=>overB l y.2:=by
 unfold doneB tops
 rw[List.take_length]
 show (zs.reverse.map Prod.snd).all (overB l)=_
 rw[List.all_map,List.all_reverse]
 rfl
theorem all_take {α:Type} {p:α->Bool} {l:List α} {j:Nat} {x:α} (h:l[j]?=some x) (hj:(l.take j).all p=true):(l.take (j+1)).all p=p x:=by
 rw[List.take_add_one,h,List.all_append,hj]
 simp
theorem all_cut {α:Type} {p:α->Bool} {l:List α} {j:Nat} {x:α} (h:l[j]?=some x) (hp:p x=false):l.all p=false:=by
 rw[List.all_eq_false]
 exact⟨x,List.mem_of_getElem? h,by rw[hp];decide⟩
theorem Done_any (l:List Tk) (a go cap lo hi:Nat) (zs:List (Nat×Lv)) (ent:Int) (w:World) (h:MaF l w a go cap lo hi zs ent) :
  Calls Tryz.prog 26 #[.pointer (some ⟨a,0,none⟩)] w fun r w'=>r = .returned (.bool (doneB l ⟨tops zs zs.length,ent⟩))/\Below w.heap.size w w':=by
 rw[done_all]
 have a0:=h.s.c0
 have hzl:=h.s.zl
 have KK:Hid (∀ W,Below w.heap.size w W->SM W a go cap zs.length zs ent/\∀ y∈zs,RwC W y.1 (rowZ l y.2.p).length):=⟨fun W hb=>⟨h.s.below hb,fun y hy=>(h.p y hy).rw.below hb⟩⟩
 clear h
 generalize hrv:(zs.all fun y=>overB l y.2)=rv
 go_enter Tryz.func26,Tryz.ntmps26
 go_wp2_with fail
 go_loopw [11] (fun n wr=>∃ j:Nat,j<=zs.length/\n = .int .i64 (j:Int)/\Hid (Below w.heap.size w wr/\((zs.take j).all fun y=>overB l y.2)=true)) (fun n _=>zs.length-(RowKit.intOf n).toNat)
 case atStart=>exact⟨0,Nat.zero_le _,by go_num,⟨Below.refl _ _,rfl⟩⟩
 case round =>
  obtain⟨j,hj,rfl,hI⟩:=hrel
  obtain⟨hb,ha⟩:=hI.out
  clear hI
  by_cases hlt:j<zs.length
  ·obtain⟨y,hy⟩:∃ y,zs[j]?=some y:=⟨zs[j],List.getElem?_eq_getElem hlt⟩
   have hlti:(j:Int)<zs.length:=by omega
   obtain⟨hS,hR⟩:=KK.out wr hb
   obtain⟨s0,s1,s2,s3⟩:=hS.cs hy
   have hb1:=bel1 wr (lvO y.1 y.2)
   have cO:=isOver_any l y.1 y.2 _ ((hR y (List.mem_of_getElem? hy)).below hb1)
   have hB:Hid (Below w.heap.size w (wr.alloc (lvO y.1 y.2))):=⟨hb.trans (hb1.mono hb.size)⟩
   have hy':Hid _:=⟨hy⟩
   have ha':Hid _:=⟨ha⟩
   have hb':Hid _:=⟨hb⟩
   clear hS hR hb1 hy ha hb KK
   cases hv:overB l y.2 with
   | false =>
    rw[hv] at cO
    have hr:rv=false:=by rw[<- hrv];exact all_cut hy'.out hv
    subst hr
    clear hv hrv
    go_wp2_with (go_at_call 44;refine cO.mono ?_;rintro _ w1 ⟨rfl,hb1⟩;replace hb1:=Hid.mk hb1)
    go_ret
    exact⟨rfl,hB.out.trans (hb1.out.mono hB.out.size)⟩
   | true =>
    rw[hv] at cO
    have ht:Hid (((zs.take (j+1)).all fun y=>overB l y.2)=true):=⟨(all_take hy'.out ha'.out).trans hv⟩
    clear hv hrv
    go_wp2_with (go_at_call 44;refine cO.mono ?_;rintro _ w1 ⟨rfl,hb1⟩;replace hb1:=Hid.mk hb1)
    go_roundw
    case rel=>exact⟨j+1,by omega,by go_num,⟨hB.out.trans (hb1.out.mono hB.out.size),ht.out⟩⟩
    case measure=>simp[RowKit.intOf];omega
  ·obtain rfl:j=zs.length:=by omega
   rw[List.take_length,hrv] at ha
   subst ha
   have hb':Hid _:=⟨hb⟩
   clear hb KK hrv
   have b1:decide ((zs.length:Int)<zs.length)=false:=by simp
   go_wp2_with fail
   go_ret
   exact⟨rfl,hb'.out⟩
theorem Inside_any (l:List Tk) (a go cap lo hi:Nat) (zs:List (Nat×Lv)) (ent:Int) (w:World) (h:MaF l w a go cap lo hi zs ent) :
  Calls Tryz.prog 57 #[.pointer (some ⟨a,0,none⟩)] w fun r w'=>r = .returned (.int .i64 (insZ ⟨tops zs zs.length,ent⟩:Int))/\Below w.heap.size w w':=by
 have a0:=h.s.c0
 have hzl:=h.s.zl
 obtain⟨n,hn⟩:∃ n,zs.length=n+1:=⟨zs.length-1,by have:=h.s.k1;omega⟩
 obtain⟨y,hy⟩:∃ y,zs[n]?=some y:=⟨zs[n]'(by omega),List.getElem?_eq_getElem (by omega)⟩
 obtain⟨s0,s1,s2,s3⟩:=h.s.cs hy
 obtain⟨_,_,_,_,e1,_⟩:=(h.p y (List.mem_of_getElem? hy)).row
 have q2:w.cell? ⟨y.1,2,none⟩=some (.int .i64 (y.2.p:Int)):=cell_at e1 2
 have ht:tops zs zs.length=y.2::tops zs n:=by rw[hn];exact tops_succ hy
 have hbot:=h.ok.bot
 simp only[ht] at hbot
 unfold insZ
 simp only[ht]
 have i1:((n+1:Nat):Int)-1=(n:Int):=by omega
 have i2:(n:Int)<((n+1:Nat):Int):=by omega
 rw[hn] at a0
 cases hbg:y.2.begun with
 | true =>
  rw[hbg] at s2
  rw[if_pos rfl]
  clear hbot ht e1 h hy hbg
  go_enter Tryz.func57,Tryz.ntmps57
  go_wp2_with fail
  go_ret
  exact⟨rfl,Below.refl _ _⟩
 | false =>
  rw[hbg] at s2
  have hne:=hbot _ _ rfl hbg
  obtain⟨m,rfl⟩:∃ m,n=m+1:=by
   cases n with
   | zero=>exact absurd rfl hne
   | succ m=>exact⟨m,rfl⟩
  obtain⟨z,hz⟩:∃ z,zs[m]?=some z:=⟨zs[m]'(by omega),List.getElem?_eq_getElem (by omega)⟩
  obtain⟨z0,z1,z2,z3⟩:=h.s.cs hz
  obtain⟨_,_,_,_,e2,_⟩:=(h.p z (List.mem_of_getElem? hz)).row
  have p2:w.cell? ⟨z.1,2,none⟩=some (.int .i64 (z.2.p:Int)):=cell_at e2 2
  rw[if_neg (by decide),tops_succ hz]
  have i3:((m+1:Nat):Int)-1=(m:Int):=by omega
  have i4:(m:Int)<((m+1+1:Nat):Int):=by omega
  clear hbot ht e1 e2 h hy hz hbg hne
  go_enter Tryz.func57,Tryz.ntmps57
  go_wp2_with fail
  go_ret
  exact⟨rfl,Below.refl _ _⟩
theorem okind_any (op:Int) (w:World):Calls Tryz.prog 95 #[.int .i64 op] w fun r w'=>r = .returned (.int .i64 (knd op))/\w'=w:=by
 unfold knd
 by_cases h:op=6
 ·have b1:(op==6)=true:=by simp[h]
  rw[if_pos h]
  clear h
  go_enter Tryz.func95,Tryz.ntmps95
  go_wp2_with fail
  go_ret
  exact⟨rfl,rfl⟩
 ·have b1:(op==6)=false:=beq_eq_false_iff_ne.2 h
  rw[if_neg h]
  clear h
  go_enter Tryz.func95,Tryz.ntmps95
  go_wp2_with fail
  go_ret
  exact⟨rfl,rfl⟩
theorem greatest_any (p:Int) (w:World):Calls Tryz.prog 96 #[.int .i64 p] w fun r w'=>r = .returned (.int .u64 (gmax p))/\w'=w:=by
 unfold gmax
 by_cases h:p=5
 ·have b1:(p==5)=true:=by simp[h]
  rw[if_pos h]
  clear h
  go_enter Tryz.func96,Tryz.ntmps96
  go_wp2_with fail
  go_ret
  exact⟨rfl,rfl⟩
 ·have b1:(p==5)=false:=beq_eq_false_iff_ne.2 h
  rw[if_neg h]
  by_cases h2:p=6
  ·have b2:(p==6)=true:=by simp[h2]
   rw[if_pos h2]
   clear h h2
   go_enter Tryz.func96,Tryz.ntmps96
   go_wp2_with fail
   go_ret
   exact⟨rfl,rfl⟩
  ·have b2:(p==6)=false:=beq_eq_false_iff_ne.2 h2
   rw[if_neg h2]
   clear h h2
   go_enter Tryz.func96,Tryz.ntmps96
   go_wp2_with fail
   go_ret
   exact⟨rfl,rfl⟩
theorem called_of {l:List Tk} {p n:Nat} {t:Tk} (ht:l[p]?=some t) (hn:t.pair=(n:Int)) (h2:¬ t.pres=2) {b:Bool} (h:(lvF l (p+1) (n-(p+1))).isEmpty = !b):calledB l p=b:=by
 unfold calledB
 simp only[ht,hn,Int.toNat_natCast,h]
 simp[h2]
theorem isCalled_any (l:List Tk) (p n:Nat) (t:Tk) (pp:Option Addr) (cp:Nat) (w:World) (H:Nat) (tl:TkL w pp H l) (ht:l[p]?=some t) (hn:t.pair=(n:Int)) (hpn:p<n) (hnl:n<l.length) :
  Calls Tryz.prog 97 #[.slice pp l.length cp,.int .i64 (p:Int)] w fun r w'=>r = .returned (.bool (calledB l p))/\w'=w:=by
 obtain⟨g,o,pc,cc,rfl,hg,hT,_⟩:=tl.at ht
 have t8:=hT.c8
 have t20:=hT.c20
 rw[hn] at t20
 have hpl:(p:Int)<l.length:=by omega
 have hll:l.length<=733007751850:=by have:=tl.len;omega
 have hTT:Hid (∀ (k:Nat) (u:Tk),l[k]?=some u->w.cell? ⟨g,o+k*21,none⟩=some (.int .i64 u.op)/\w.cell? ⟨g,o+k*21+8,none⟩=some (.int .i64 u.pres)):=⟨fun k u hu=>by
  obtain⟨g',o',pc,cc,e,_,h1,_⟩:=tl.at hu
  cases e
  exact⟨h1.c0,h1.c8⟩⟩
 by_cases h2:t.pres=2
 ·have b1:(t.pres==2)=true:=by simp[h2]
  have hc:calledB l p=false:=by unfold calledB;simp only[ht];simp[h2]
  rw[hc]
  clear hT h2 hc ht tl
  go_enter Tryz.func97,Tryz.ntmps97
  go_wp2_with fail
  go_ret
  exact⟨rfl,rfl⟩
 ·have b1:(t.pres==2)=false:=beq_eq_false_iff_ne.2 h2
  have hcl:Hid (∀ b,(lvF l (p+1) (n-(p+1))).isEmpty=(!b)->calledB l p=b):=⟨fun b hb=>called_of ht hn h2 hb⟩
  generalize calledB l p=rv at hcl ⊢
  clear hT h2 ht tl
  go_enter Tryz.func97,Tryz.ntmps97
  go_wp2_with fail
  go_loopw [5] (fun q wr=>∃ k:Nat,p+1<=k/\k<=n/\q = .int .i64 (k:Int)/\wr=w/\Hid (lvF l (p+1) (n-(p+1))=lvF l k (n-k))) (fun q _=>n-(RowKit.intOf q).toNat)
  case atStart=>exact⟨p+1,Nat.le_refl _,by omega,by go_num,rfl,⟨rfl⟩⟩
  case round =>
   obtain⟨k,hk1,hk2,rfl,rfl,hC⟩:=hrel
   by_cases hlt:k<n
   ·have hlti:(k:Int)<n:=by omega
    have hkl:(k:Int)<l.length:=by omega
    obtain⟨u,hu⟩:∃ u,l[k]?=some u:=⟨l[k]'(by omega),List.getElem?_eq_getElem (by omega)⟩
    obtain⟨u0,u8⟩:=hTT.out k u hu
    have hC':=hC.out
    rw[show n-k=(n-(k+1))+1 by omega] at hC'
    have hw2:IntKind.i64.wrap ((k:Int)+1)=(k:Int)+1:=by rw[IntKind.wrap_i64];omega
    clear hC
    cases hlv:lvB u with
    | true =>
     rw[lvF_yes hu hlv] at hC'
     have hlv':u.op=14/\¬ u.pres=2:=of_decide_eq_true hlv
     have c2:(u.op==14)=true:=by simp[hlv'.1]
     have c3:(u.pres==2)=false:=beq_eq_false_iff_ne.2 hlv'.2
     have c3':(u.pres != 2)=true:=by simp[hlv'.2]
     obtain rfl:rv=true:=hcl.out true (by rw[hC'];rfl)
     clear hC' hlv hlv' hcl hTT hu
     go_wp2_with fail
     go_ret
     exact⟨rfl,rfl⟩
    | false =>
     rw[lvF_no hu hlv] at hC'
     have hC2:Hid (lvF l (p+1) (n-(p+1))=lvF l (k+1) (n-(k+1))):=⟨hC'⟩
     have hlv':¬ (u.op=14/\¬ u.pres=2):=of_decide_eq_false hlv
     clear hC' hlv hu
     by_cases h14:u.op=14
     ·have c2:(u.op==14)=true:=by simp[h14]
      have c3:(u.pres==2)=true:=by simp;omega
      have c3':(u.pres != 2)=false:=by simp;omega
      clear hlv' h14
      go_wp2_with fail
      go_roundw
      case rel=>exact⟨k+1,by omega,by omega,by go_num,by first|rfl|trivial,hC2⟩
      case measure=>simp[RowKit.intOf];omega
     ·have c2:(u.op==14)=false:=beq_eq_false_iff_ne.2 h14
      clear hlv' h14
      go_wp2_with fail
      go_roundw
      case rel=>exact⟨k+1,by omega,by omega,by go_num,by first|rfl|trivial,hC2⟩
      case measure=>simp[RowKit.intOf];omega
   ·obtain rfl:k=n:=by omega
    have hC':=hC.out
    rw[Nat.sub_self,lvF] at hC'
    obtain rfl:rv=false:=hcl.out false (by rw[hC'];rfl)
    have b2:decide ((k:Int)<k)=false:=by simp
    clear hC hC' hcl hTT
    go_wp2_with fail
    go_ret
    exact⟨rfl,rfl⟩
def _root_.Go.Proofs.Tryz.laysPu25_ren:Go.Shelf.Ren:=⟨fun|25=>98|n=>n,fun|9=>9|3=>3|4=>4|37=>31|0=>0|47=>199|5=>5|n=>n,fun|n=>n⟩
theorem _root_.Go.Proofs.Tryz.laysPu25:Go.Proofs.LaysPu.n25 Tryz.prog Tryz.laysPu25_ren:={
 mixed:=by kernel_rfl
 f25:=Tryz.func98.trans (congrArg some (by kernel_rfl))
 t0:=Tryz.underlying0
 a0:=Tryz.isAgg0
 z0:=Tryz.sizeOf0
 v0:=Tryz.zeroValue0
 i0:=by kernel_rfl
 t3:=Tryz.underlying3
 a3:=Tryz.isAgg3
 z3:=Tryz.sizeOf3
 v3:=Tryz.zeroValue3
 i3:=by kernel_rfl
 t4:=Tryz.underlying4
 a4:=Tryz.isAgg4
 z4:=Tryz.sizeOf4
 v4:=Tryz.zeroValue4
 i4:=by kernel_rfl
 t5:=Tryz.underlying5
 a5:=Tryz.isAgg5
 z5:=Tryz.sizeOf5
 v5:=Tryz.zeroValue5
 i5:=by kernel_rfl
 t9:=Tryz.underlying9
 a9:=Tryz.isAgg9
 z9:=Tryz.sizeOf9
 v9:=Tryz.zeroValue9
 i9:=by kernel_rfl
 t37:=Tryz.underlying31
 a37:=Tryz.isAgg31
 z37:=Tryz.sizeOf31
 v37:=Tryz.zeroValue31
 i37:=by kernel_rfl
 t47:=Tryz.underlying199
 a47:=Tryz.isAgg199
 z47:=Tryz.sizeOf199
 v47:=Tryz.zeroValue199
 i47:=by kernel_rfl }
theorem strClone0 (s:ByteArray) (w:World) (hs:s.size<=281474976710656):Calls Tryz.prog 98 #[.string s] w fun e w'=>e = .returned (.string s)/\Below w.heap.size w w' :=
 AnyPu.stringslite_Clone Tryz.laysPu25 s w hs
theorem strClone (s:ByteArray) (w:World) (hs:s.size<=281474976710656):Calls Tryz.prog 56 #[.string s] w fun e w'=>e = .returned (.string s)/\Below w.heap.size w w':=by
 have hcon:=fun w=>strClone0 s w hs
 go_enter Tryz.func56,Tryz.ntmps56
 go_wp2_with (go_at_call 98;refine(hcon _).mono ?_;rintro e w' ⟨rfl,hB⟩)
 go_ret
 exact⟨rfl,hB⟩
structure Pb (l:List Tk) (p n:Nat) (t:Tk) (ks:List Nat):Prop where
 bg:Bgn l p n t ks
 kop:∀ k∈ks,∀ u,l[k]?=some u->(u.op=2\/u.op=4\/u.op=6)/\∃ m:Nat,u.pair=(m:Int)/\k<m/\m<l.length
theorem data_ops {f:Fm} {b:Nat} {t:Tk} {ks:List Nat} (h:Took f b t ks) (ho:t.op=6) {k:Nat} (hk:k∈ks) {u:Tk} (hu:f.toks[k]?=some u):False:=by
 obtain⟨j,hj⟩:=List.getElem?_of_mem hk
 obtain⟨x,o,ids,e1,e2,e3,e4,e5⟩:=h j k u hj hu
 obtain⟨hm,_⟩:=inOk_in e4 e5
 unfold mayB at hm
 rw[e2,ho] at hm
 simp at hm
 rw[hm] at e5
 exact absurd e5 (by decide)
theorem pb_of {f:Fm} {p:Nat} {t:Tk} (hz:chkZ f=none) (ht:f.toks[p]?=some t) (ho:t.op=0\/t.op=4\/t.op=6):∃ n ks,Pb f.toks p n t ks:=by
 have hg:bgO t.op=true:=by rcases ho with h|h|h<;>rw[h]<;>rfl
 obtain⟨n,ks,h1,h2⟩:=bgn_took hz ht hg
 refine⟨n,ks,h1,fun k hk u hu=>?_⟩
 have hop:u.op=2\/u.op=4\/u.op=6:=by
  rcases ho with h|h|h
  ·exact block_ops h2 (.inl h) hk hu
  ·exact block_ops h2 (.inr h) hk hu
  ·exact(data_ops h2 h hk hu).elim
 have hg2:bgO u.op=true:=by rcases hop with h|h|h<;>rw[h]<;>rfl
 obtain⟨m,_,h3,_⟩:=bgn_took hz hu hg2
 exact⟨hop,m,h3.en,h3.bn,h3.nl⟩
theorem chn_next {l:List Tk} {k n:Nat} {r:List Nat} (h:Chn l k (k::r) n) (hr:∀ j∈r,j<n) {u:Tk} {m:Nat} (hu:l[k]?=some u) (hm:u.pair=(m:Int)):m<n/\Chn l (m+1) r n:=by
 obtain⟨_,u',m',h1,h2,h3⟩:=h
 rw[hu] at h1
 cases h1
 rw[hm] at h2
 have h2:m=m':=by omega
 subst h2
 refine⟨?_,h3⟩
 cases r with
 | nil=>have:m+1=n:=h3;omega
 | cons k2 r2 =>
  have:=h3.1
  have:=hr k2 (List.mem_cons_self ..)
  omega
theorem chn_head {l:List Tk} {i n:Nat} {r:List Nat} (h:Chn l i r n) (hr:∀ j∈r,j<n) (hi:i<n):∃ r',r=i::r':=by
 cases r with
 | nil=>have:i=n:=h;omega
 | cons k r'=>have:=h.1;subst this;exact⟨r',rfl⟩
theorem chn_end {l:List Tk} {n:Nat} {r:List Nat} (h:Chn l n r n) (hr:∀ j∈r,j<n):r=[]:=by
 cases r with
 | nil=>rfl
 | cons k r'=>have:=h.1;have:=hr k (List.mem_cons_self ..);omega
def rowF (l:List Tk) (i:Nat):Bool:=!decide (opAt l i=2)
def fldF (l:List Tk) (i:Nat):Bool:=decide (opAt l i=2)&&calledB l i
abbrev ptV (g:Nat):Value:=.pointer (some ⟨g,0,none⟩)
theorem p_ap {W:World} {base:Nat} {v:Value} {al:List Nat} {g:Nat} {ad:Addr} (own:W.ownsRow base 113 1 v al.length (al.map ptV)) (hB:W.cell? (ad.add 0)=some (ptV g)) (hl:al.length+1<=977343669134) (hb:base<=W.heap.size) :
  ∃ v' w',(∀ ty,(Builtin.append_ #[171,171] ty #[v,.slice (some ad) 1 1]).run Tryz.prog W = .ok v' w')/\(w'.ownsRow base 113 1 v' (al++[g]).length ((al++[g]).map ptV)/\W.grownBy w' v.ownBlock/\(v'.ownBlock=v.ownBlock\/v'.ownBlock=some W.heap.size)):=by
 obtain⟨i0,hi,hz,hs,hby⟩:=infoOf 113 (.pointer none) 1 8 (by kernel_rfl)
 have hr:=fun ty=>run_append_own_at (P:=Tryz.prog) W base 171 ty 113 i0 _ 1 8 Tryz.underlying171 hi hz hs hby rfl (by decide) v al.length (al.map ptV) own ad 1 1 [ptV g] rfl (fun j u hu=>by
  cases j with
  | zero=>cases hu;exact hB
  | succ j=>simp at hu) (fun u hu=>by rw[List.mem_singleton.1 hu];rfl) (by simp only[maxLen];omega) (by omega) (by omega)
 obtain⟨v',w',h1,h2,h3,_,h4⟩:=hr 0
 refine⟨v',w',fun ty=>?_,by rw[List.length_append,List.map_append];exact h2,h3,h4⟩
 have e:(Builtin.append_ #[171,171] ty #[v,.slice (some ad) 1 1])=(Builtin.append_ #[171,171] 0 #[v,.slice (some ad) 1 1]):=rfl
 rw[e]
 exact h1
structure PI (l:List Tk) (W:World) (lo S gp m p d:Nat) (ks1 gs:List Nat) (v:Value):Prop where
 c:W.heap[gp]?=some (.cells #[.int .i64 (knd (opAt l p)),.string (nmAt l p),.int .i64 (p:Int),.int .u64 (gmax (bpAt l p)),.map (some m),v] 173)
 mp:∃ k,k<=ks1.length/\SHas W m k (fun s=>∃ i∈ks1.filter (fldF l),nmAt l i=s)
 ow:W.ownsRow S 113 1 v gs.length (gs.map ptV)
 ln:gs.length=(ks1.filter (rowF l)).length
 ch:∀ (j g' q:Nat),gs[j]?=some g'->(ks1.filter (rowF l))[j]?=some q->∃ a b,S<=a/\b<=W.heap.size/\PtC l W a b d g' q/\∀ r,v.ownBlock=some r->r<a\/b<=r
 g1:lo<=gp/\gp<S
 m1:lo<=m/\m<S
 gm:gp≠m
 sz:S<=W.heap.size
theorem PI.below {l:List Tk} {W W':World} {lo S gp m p d:Nat} {ks1 gs:List Nat} {v:Value} (h:PI l W lo S gp m p d ks1 gs v) (hb:Below W.heap.size W W'):PI l W' lo S gp m p d ks1 gs v:=by
 obtain⟨k,hk,hS⟩:=h.mp
 have hs:=hb.size
 have h1:=h.sz
 have h2:=h.g1
 have h3:=h.m1
 refine⟨(hb.block gp (by omega)).trans h.c,⟨k,hk,hS.same (hb.block m (by omega))⟩,own_keep h.ow hb,h.ln,fun j g' q e1 e2=>?_,h.g1,h.m1,h.gm,by omega⟩
 obtain⟨a,b,q1,q2,q3,q4⟩:=h.ch j g' q e1 e2
 exact⟨a,b,q1,by omega,q3.same fun k _ hk=>hb.block k (by omega),q4⟩
theorem PI.field {l:List Tk} {W W':World} {lo S gp m p d:Nat} {ks1 gs:List Nat} {v:Value} {k:Nat} (h:PI l W lo S gp m p d ks1 gs v) (hf:fldF l k=true) (hr:rowF l k=false) (hg:W.grownBy W' (some m)) (hS:∃ k',k'<=ks1.length+1/\SHas W' m k' (fun s=>s=nmAt l k\/∃ i∈ks1.filter (fldF l),nmAt l i=s)):PI l W' lo S gp m p d (ks1++[k]) gs v:=by
 obtain⟨k',hk',D,hD,hh⟩:=hS
 have h1:=h.sz
 have h2:=h.g1
 have h3:=h.m1
 have hb:∀ j,j<W.heap.size->j≠m->W'.heap[j]?=W.heap[j]?:=fun j hj hn=>hg.block j hj (fun e=>hn (Option.some.inj e))
 have hs:=hg.size
 refine⟨(hb gp (by omega) h.gm).trans h.c,⟨k',by simpa using hk',D,hD,fun s hs=>?_⟩,own_keepP h.ow fun r hr=>hb r (h.ow.lt r hr).2 (by have:=(h.ow.lt r hr).1;omega),?_,fun j g' q e1 e2=>?_,h.g1,h.m1,h.gm,by omega⟩
 ·rw[hh s hs,List.filter_append]
  simp only[List.filter_cons,hf,List.filter_nil,if_true,List.mem_append,List.mem_singleton]
  constructor
  ·rintro(rfl|⟨i,hi,e⟩)
   ·exact⟨k,.inr rfl,rfl⟩
   ·exact⟨i,.inl hi,e⟩
  ·rintro⟨i,hi|rfl,e⟩
   ·exact .inr ⟨i,hi,e⟩
   ·exact .inl e.symm
 ·rw[List.filter_append]
  simp only[List.filter_cons,hr,List.filter_nil]
  simpa using h.ln
 ·rw[List.filter_append] at e2
  simp only[List.filter_cons,hr,List.filter_nil] at e2
  obtain⟨a,b,q1,q2,q3,q4⟩:=h.ch j g' q e1 (by simpa using e2)
  exact⟨a,b,q1,by omega,q3.same fun k' _ hk'=>hb k' (by omega) (by omega),q4⟩
theorem PI.skip {l:List Tk} {W:World} {lo S gp m p d:Nat} {ks1 gs:List Nat} {v:Value} {k:Nat} (h:PI l W lo S gp m p d ks1 gs v) (hf:fldF l k=false) (hr:rowF l k=false):PI l W lo S gp m p d (ks1++[k]) gs v:=by
 have e1:(ks1++[k]).filter (fldF l)=ks1.filter (fldF l):=by rw[List.filter_append];simp[hf]
 have e2:(ks1++[k]).filter (rowF l)=ks1.filter (rowF l):=by rw[List.filter_append];simp[hr]
 obtain⟨k',hk',hS⟩:=h.mp
 refine⟨h.c,⟨k',by simp;omega,by rw[e1];exact hS⟩,h.ow,by rw[e2];exact h.ln,by rw[e2];exact h.ch,h.g1,h.m1,h.gm,h.sz⟩
theorem PI.row {l:List Tk} {W W1 W2:World} {lo S gp m p d:Nat} {ks1 gs:List Nat} {v v':Value} {k g':Nat} (h:PI l W lo S gp m p d ks1 gs v) (hf:fldF l k=false) (hr:rowF l k=true) {hi:Nat} (hW:Below W.heap.size W W1) (hhi:hi<=W1.heap.size) (hP:PtC l W1 W.heap.size hi d g' k)
  (own:W2.ownsRow S 113 1 v' (gs++[g']).length ((gs++[g']).map ptV)) (hg:W1.grownBy W2 v.ownBlock) (hv:v'.ownBlock=v.ownBlock\/v'.ownBlock=some W1.heap.size):PI l (W2.setCell ⟨gp,5,none⟩ v') lo S gp m p d (ks1++[k]) (gs++[g']) v':=by
 have h1:=h.sz
 have h2:=h.g1
 have h3:=h.m1
 have hs1:=hW.size
 have hs2:=hg.size
 have hs3:(W2.setCell ⟨gp,5,none⟩ v').heap.size=W2.heap.size:=by simp[World.setCell]
 have hvl:∀ r,v.ownBlock=some r->S<=r/\r<W.heap.size:=fun r hr=>h.ow.lt r hr
 have hvl':∀ r,v'.ownBlock=some r->S<=r:=fun r hr=>(own.lt r hr).1
 have hb1:∀ j,j<W1.heap.size->v.ownBlock≠some j->j≠gp->(W2.setCell ⟨gp,5,none⟩ v').heap[j]?=W1.heap[j]?:=fun j hj hn hne=>(set_oth (Ne.symm hne)).trans (hg.block j hj (fun e=>hn e.symm))
 have hb:∀ j,j<W.heap.size->v.ownBlock≠some j->j≠gp->(W2.setCell ⟨gp,5,none⟩ v').heap[j]?=W.heap[j]?:=fun j hj hn hne=>(hb1 j (by omega) hn hne).trans (hW.block j hj)
 have hvg:v.ownBlock≠some gp:=fun e=>by have:=(hvl gp e).1;omega
 have hvm:v.ownBlock≠some m:=fun e=>by have:=(hvl m e).1;omega
 have hcg:W2.heap[gp]?=some (.cells #[.int .i64 (knd (opAt l p)),.string (nmAt l p),.int .i64 (p:Int),.int .u64 (gmax (bpAt l p)),.map (some m),v] 173):=(hg.block gp (by omega) (fun e=>hvg e.symm)).trans ((hW.block gp (by omega)).trans h.c)
 have e1:(ks1++[k]).filter (fldF l)=ks1.filter (fldF l):=by rw[List.filter_append];simp[hf]
 have e2:(ks1++[k]).filter (rowF l)=ks1.filter (rowF l)++[k]:=by rw[List.filter_append];simp[hr]
 obtain⟨k',hk',hS⟩:=h.mp
 refine⟨?_,⟨k',by simp;omega,?_⟩,own_keepP own fun r hr=>set_oth (by have:=hvl' r hr;omega),?_,fun j g2 q e3 e4=>?_,h.g1,h.m1,h.gm,by omega⟩
 ·have e:(W2.setCell ⟨gp,5,none⟩ v').heap=W2.heap.modify gp (fun o=>match o with
   | .cells cs t f=>.cells (cs.setIfInBounds 5 v') t f
   | o=>o):=rfl
  rw[e,Array.getElem?_modify,if_pos rfl,hcg]
  rfl
 ·rw[e1]
  exact hS.same (hb m (by omega) hvm (fun e=>h.gm e.symm))
 ·rw[e2,List.length_append,List.length_append,h.ln]
  rfl
 ·rw[e2] at e4
  have hln:=h.ln
  rcases Nat.lt_or_ge j gs.length with hj|hj
  ·rw[List.getElem?_append_left hj] at e3
   rw[List.getElem?_append_left (by omega)] at e4
   obtain⟨a,b,q1,q2,q3,q4⟩:=h.ch j g2 q e3 e4
   refine⟨a,b,q1,by omega,q3.same fun x hx1 hx2=>hb x (by omega) (fun e=>by have:=q4 x e;omega) (by omega),fun r hr=>?_⟩
   rcases hv with hv|hv
   ·exact q4 r (hv▸hr)
   ·rw[hr] at hv
    have:=Option.some.inj hv
    omega
  ·rw[List.getElem?_append_right hj] at e3
   rw[List.getElem?_append_right (by omega)] at e4
   have h0:j-gs.length=0:=by
    have:=(List.getElem?_eq_some_iff.1 e3).1
    simp at this
    omega
   rw[h0] at e3
   rw[show j-(ks1.filter (rowF l)).length=0 by omega] at e4
   cases e3
   cases e4
   refine⟨W.heap.size,hi,h1,by omega,hP.same fun x hx1 hx2=>hb1 x (by omega) (fun e=>by have:=(hvl x e).2;omega) (by omega),fun r hr=>?_⟩
   rcases hv with hv|hv
   ·exact .inl (hvl r (hv▸hr)).2
   ·rw[hr] at hv
    have:=Option.some.inj hv
    omega
theorem PI.done {l:List Tk} {W:World} {lo S gp m p d n:Nat} {t:Tk} {ks gs:List Nat} {v:Value} (h:PI l W lo S gp m p d ks gs v) (hb:Bgn l p n t ks):PtC l W lo W.heap.size (d+1) gp p:=by
 have h1:=h.sz
 have h2:=h.g1
 have h3:=h.m1
 have er:ks.filter (rowF l)=rowZ l p:=by unfold rowZ;rw[hb.kids];rfl
 have ef:ks.filter (fldF l)=fldZ l p:=by unfold fldZ;rw[hb.kids];rfl
 obtain⟨k,_,hS⟩:=h.mp
 refine⟨⟨h2.1,by omega⟩,m,k,v,gs,h.c,⟨h3.1,by omega,by rw[ef] at hS;exact hS⟩,fun r hr=>(h.ow.lt r hr).2,own_lower h.ow (by omega),by rw[h.ln,er],fun j g' q e1 e2=>?_⟩
 obtain⟨a,b,q1,q2,q3,q4⟩:=h.ch j g' q e1 (by rw[er];exact e2)
 exact q3.mono (by omega) q2
end Go.Proofs.YtjlbcdnkglaheaaGreatDoor

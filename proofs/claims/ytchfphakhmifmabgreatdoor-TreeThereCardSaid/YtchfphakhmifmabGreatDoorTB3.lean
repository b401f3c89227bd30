import Derived.Lib.SlBytesConst
import Derived.Test.YtchfphakhmifmabGreatDoorTA2
import Derived.Deep.CutBlock
namespace Go.Proofs.YtchfphakhmifmabGreatDoor
set_option maxRecDepth 1000000
set_option maxHeartbeats 16000000
open Go.ChangeShapes Go.WideShapes Go.ChangeAt Go.RowKit Go.Lib
def BufM (w:World) (B:Nat) (v:Value) (L:List Nat):Prop:=Buf w B v L ∨ ∃ g mk,v = .slice (some ⟨g,0,none⟩) L.length L.length ∧ B ≤ g ∧ w.heap[g]? = some (.cells (L.map cU).toArray 5 mk)
theorem BufM.lit (w:World) (B:Nat) (L:List Nat) (C:Array Value) (hC:C = (L.map cU).toArray) (n:Nat) (hn:n = L.length) (mk:Nat × Nat) (hB:B ≤ w.heap.size):BufM (w.alloc (.cells C 5 mk)) B (.slice (some ⟨w.heap.size,0,none⟩) n n) L:=by
 subst hC hn
 refine .inr ⟨w.heap.size,mk,rfl,hB,?_⟩
 show (w.heap.push _)[w.heap.size]? = _
 rw [Array.getElem?_push,if_pos rfl]
theorem BufM.cells {w:World} {g:Nat} {L:List Nat} {mk:Nat × Nat} (hg:w.heap[g]? = some (.cells (L.map cU).toArray 5 mk)):∀ j u,(L.map cU)[j]? = some u → w.cell? ((⟨g,0,none⟩:Addr).add j) = some u:=by
 intro j u hu
 have hadd:(⟨g,0,none⟩:Addr).add j = ⟨g,j,none⟩:=by unfold Addr.add;split <;> simp_all
 rw [hadd,cell_of_row w g j _ _ mk hg]
 simpa using hu
theorem BufM.conv {w:World} {B:Nat} {v:Value} {L:List Nat} (h:BufM w B v L):(convert 59 9 v).run Tryz.prog w = .ok (.string (sOf L)) w:=by
 rcases h with h | ⟨g,mk,rfl,hB,hg⟩
 ·exact h.conv
 ·have:=run_convert_bytes_arg w 59 5 Tryz.underlying59 Tryz.underlying5 g 0 L.length L.length (L.map Int.ofNat) (by simp) (fun i hi=>by
   have hx:(L.map cU)[i]? = some (cU L[i]):=by simp [hi]
   have:=BufM.cells hg i _ hx
   have hadd:(⟨g,0,none⟩:Addr).add i = ⟨g,i,none⟩:=by unfold Addr.add;split <;> simp_all
   rw [hadd] at this
   rw [Nat.zero_add,this]
   simp [cU,List.getD,hi]) 9 Tryz.underlying9
  have e:strOfNums (L.map Int.ofNat) = sOf L:=by
   unfold strOfNums sOf
   simp [Function.comp_def]
  rw [this,e]
theorem bufm_one {w:World} {B:Nat} {v:Value} {L:List Nat} (h:BufM w B v L) (c:Nat) (hl:L.length ≤ 1000) (hB:B ≤ w.heap.size) :
  ∃ v' w',(∀ ty,(Builtin.append_ #[59,59] ty #[v,.slice (some ⟨w.heap.size,0,none⟩) 1 1]).run Tryz.prog (w.alloc (.cells #[.int .u8 (c:Int)] 5)) = .ok v' w') ∧ BufM w' B v' (L ++ [c]) ∧ Below B w w':=by
 have hb:=bel1 w (.cells #[.int .u8 (c:Int)] 5)
 have hG:(w.alloc (.cells #[.int .u8 (c:Int)] 5)).heap[w.heap.size]? = some (.cells #[.int .u8 (c:Int)] 5):=by
  show (w.heap.push _)[w.heap.size]? = _
  rw [Array.getElem?_push,if_pos rfl]
 have S:=src_lit (w.alloc (.cells #[.int .u8 (c:Int)] 5)) w.heap.size 1 1 [c] rfl hG
 rcases h with h | ⟨g,mk,rfl,hBg,hg⟩
 ·obtain ⟨v',w',h1,h2,h3,h4,h5⟩:=tbufAppend (M:=[c]) (h.below hb) S (by simp;omega) (Nat.le_trans hB hb.size)
  exact ⟨v',w',h1,.inl h2,(hb.mono hB).trans h3⟩
 ·obtain ⟨i,hi,hz,hsz,hby⟩:=info5
  have S':Src Tryz.prog i.size 59 (.slice (some ⟨w.heap.size,0,none⟩) 1 1) 1 ([c].map cU) (w.alloc (.cells #[.int .u8 (c:Int)] 5)):=by rw [hsz];exact S
  have hg1:=(hb.block g (Array.getElem?_eq_some_iff.1 hg).1).trans hg
  have hold:(Builtin.firstCells i.size L.length (.slice (some ⟨g,0,none⟩) L.length L.length)).run Tryz.prog (w.alloc (.cells #[.int .u8 (c:Int)] 5)).drew = .ok (L.map cU).toArray (w.alloc (.cells #[.int .u8 (c:Int)] 5)).drew :=
   run_firstCells_some _ i.size L.length ⟨g,0,none⟩ L.length L.length _ (by rw [List.length_map,hsz,Nat.mul_one]) (BufM.cells hg1)
  have hfit:Builtin.nextslicecap (L.length + 1) L.length * i.bytes ≤ 281474976710656:=by
   have:=growslice_fits (bytes:=1) (show L.length < L.length + 1 by omega) (by omega)
   rw [hby];exact this
  have ge:=grownCap_ge (w.alloc (.cells #[.int .u8 (c:Int)] 5)) (L.length + 1) L.length 5
  have le:=grownCap_le_maxLen (w.alloc (.cells #[.int .u8 (c:Int)] 5)) (L.length + 1) L.length 5 (by unfold maxLen;omega)
  refine ⟨_,_,fun ty=>run_append_grow_src (w.alloc (.cells #[.int .u8 (c:Int)] 5)) 59 59 ty 5 i (.int .u8 0) Tryz.underlying59 hi hz (some ⟨g,0,none⟩) L.length L.length _ hold _ 1 _ S' (by omega) (by omega) hfit,.inl ⟨?_,?_⟩,(hb.mono hB).drew.alloc (Nat.le_trans hB hb.size) _⟩
  ·rw [List.length_map,List.length_append,Nat.mul_one]
  ·refine .inr ⟨(w.alloc (.cells #[.int .u8 (c:Int)] 5)).heap.size,_,_,by rw [List.length_append];rfl,Nat.le_trans hB hb.size,heap_alloc_new (w.alloc (.cells #[.int .u8 (c:Int)] 5)).drew _,by rw [List.length_append];exact ge,le,?_,?_⟩
   ·simp only [Array.size_append,List.size_toArray,size_zeroCells]
    rw [List.length_append,List.length_map,List.length_map,show (Value.int .u8 0).cells.size = 1 from rfl,List.length_singleton]
    omega
   ·rw [Nat.mul_one,Array.toList_append,List.take_append_of_le_length (by simp),List.map_append,List.take_of_length_le (by simp)]
def nmOk (c:Nat):Bool:=(decide (97 ≤ c) && decide (c ≤ 122)) || (decide (65 ≤ c) && decide (c ≤ 90)) || (decide (48 ≤ c) && decide (c ≤ 57)) || decide (c = 45) || decide (c = 58)
def nameL (s:ByteArray) (j:Nat):List Nat:=110 :: ((lOf s).take j).filter nmOk
theorem nameL_len (s:ByteArray) (j:Nat):(nameL s j).length ≤ j + 1:=by
 unfold nameL
 rw [List.length_cons]
 have h1:=List.length_filter_le nmOk ((lOf s).take j)
 have h2:((lOf s).take j).length ≤ j:=by rw [List.length_take];omega
 omega
theorem lOf_get (s:ByteArray) {j:Nat} (h:j < s.size):(lOf s)[j]? = some (ch s j):=by
 unfold lOf ch
 rw [List.getElem?_map]
 have hl:j < s.data.toList.length:=by rw [tl_len];exact h
 rw [List.getElem?_eq_getElem hl]
 simp [List.getD,List.getElem?_eq_getElem hl]
theorem nameL_yes (s:ByteArray) {j:Nat} (h:j < s.size) (hc:nmOk (ch s j) = true):nameL s (j + 1) = nameL s j ++ [ch s j]:=by
 unfold nameL
 rw [List.take_add_one,lOf_get s h,List.filter_append]
 simp [hc]
theorem nameL_no (s:ByteArray) {j:Nat} (h:j < s.size) (hc:nmOk (ch s j) = false):nameL s (j + 1) = nameL s j:=by
 unfold nameL
 rw [List.take_add_one,lOf_get s h,List.filter_append]
 simp [hc]
theorem lslice_to (s:ByteArray) (k:Nat) (hk:k ≤ s.size) (w:World):(Instr.slice 9 (.string s) none (some (.int .i64 (k:Int))) none).run Tryz.prog w = .ok (.string (s.extract 0 k)) w:=by
 rw [run_slice_string_to_if w 9 s .i64 k Tryz.underlying9,if_pos ⟨by omega,by omega⟩,Int.toNat_natCast]
theorem nnum_any (e:Int) (w:World):Calls Tryz.prog 12 #[.int .i64 e] w fun r w'=>r = .returned (.int .i64 e) ∧ w' = w:=by
 go_enter Tryz.func12,Tryz.ntmps12
 go_wp2_with fail
 go_ret
 exact ⟨rfl,rfl⟩
structure Dep (es:List El):Prop where
 z:∀ e,es[0]? = some e → e.d = 1
 s:∀ k a b,es[k]? = some a → es[k + 1]? = some b → 2 ≤ b.d ∧ b.d ≤ a.d + 1
structure Sd where
 d:Int
 nm:ByteArray
 ats:List ByteArray
 tx:ByteArray
structure SRo (w:World) (pp:Option Addr) (H:Nat) (ss:List ByteArray):Prop where
 c:∀ (i:Nat) (s:ByteArray),ss[i]? = some s → ∃ g o,pp = some ⟨g,o,none⟩ ∧ g < H ∧ w.cell? ⟨g,o + i,none⟩ = some (.string s)
structure SdRow (w:World) (pp:Option Addr) (H:Nat) (sd:List Sd):Prop where
 c:∀ (i:Nat) (e:Sd),sd[i]? = some e → ∃ g o pa ca,pp = some ⟨g,o,none⟩ ∧ g < H ∧ w.cell? ⟨g,o + i * 4,none⟩ = some (.int .i64 e.d) ∧ w.cell? ⟨g,o + i * 4 + 1,none⟩ = some (.string e.nm) ∧ w.cell? ⟨g,o + i * 4 + 2,none⟩ = some (.slice pa e.ats.length ca) ∧ w.cell? ⟨g,o + i * 4 + 3,none⟩ = some (.string e.tx) ∧ SRo w pa H e.ats
structure SdOk (sd:List Sd):Prop where
 l:sd.length ≤ 140737488351232
 e:∀ e ∈ sd,e.ats.length ≤ 140737488351232 ∧ (-9223372036854775808 ≤ e.d ∧ e.d ≤ 9223372036854775807) ∧ e.nm.size ≤ 9223372036854775807 ∧ e.tx.size ≤ 9223372036854775807 ∧ ∀ s ∈ e.ats,s.size ≤ 9223372036854775807
structure MD (W:World) (bot:Nat) (vE:Value) (f:Nat → Rw) (ex:List Elx):Prop where
 pf:PF W bot f
 f0:f 0 = elR vE ex
 fa:∀ i x,ex[i]? = some x → f (1 + i) = atR x
 dp:Dep (ex.map Elx.e)
 d6:∀ x ∈ ex,1 ≤ x.e.d ∧ x.e.d ≤ 16
theorem MD.own {W:World} {bot:Nat} {vE:Value} {f:Nat → Rw} {ex:List Elx} (h:MD W bot vE f ex):W.ownsRow bot 32 5 vE ex.length (ex.flatMap elC):=by
 have:=h.pf.own 0
 rw [h.f0] at this
 exact this
def rootX:Elx:=⟨⟨1,⟨#[114,111,111,116]⟩,[],⟨#[]⟩,0⟩,.slice none 0 0⟩
def rootF (g:Nat):Nat → Rw:=fun c=>if c = 0 then elR (.slice (some ⟨g,0,none⟩) 1 1) [rootX] else ⟨54,3,.slice none 0 0,0,[]⟩
theorem MD.root (w:World):MD (w.alloc (.cells #[.int .i64 1,.string ⟨#[114,111,111,116]⟩,.slice none 0 0,.string ⟨#[]⟩,.int .i64 0] 32)) w.heap.size (.slice (some ⟨w.heap.size,0,none⟩) 1 1) (rootF w.heap.size) [rootX]:=by
 refine ⟨⟨fun c=>?_,fun c c' hne k h1 h2=>?_⟩,rfl,fun i x hx=>?_,⟨fun e he=>?_,fun k a b ha hb=>?_⟩,fun x hx=>?_⟩
 ·unfold Rw.own rootF
  by_cases h:c = 0
  ·rw [if_pos h]
   refine ⟨rfl,.inr ⟨w.heap.size,1,_,rfl,Nat.le_refl _,theap_new w _,Nat.le_refl _,by unfold maxLen;decide,rfl,rfl⟩⟩
  ·rw [if_neg h];exact World.ownsRow_nil _ _ _ _
 ·unfold rootF at h1 h2
  by_cases h:c = 0
  ·rw [if_neg (by omega)] at h2;cases h2
  ·rw [if_neg h] at h1;cases h1
 ·cases i with
  | zero=>cases hx;rfl
  | succ i=>cases hx
 ·cases he;rfl
 ·cases hb
 ·rcases List.mem_singleton.1 hx with rfl
  exact ⟨by decide,by decide⟩
theorem MD.last {W:World} {bot:Nat} {vE:Value} {f:Nat → Rw} {ex:List Elx} {k:Nat} (h:MD W bot vE f ex) (hl:ex.length = k + 1):∃ g c D x,vE = .slice (some ⟨g,0,none⟩) (k + 1) c ∧ W.cell? ⟨g,k * 5,none⟩ = some (.int .i64 D) ∧ g < W.heap.size ∧ bot ≤ g ∧ ex[k]? = some x ∧ x.e.d = D ∧ 1 ≤ D ∧ D ≤ 16:=by
 obtain ⟨g,c,e⟩:=own_shape h.own (by omega)
 obtain ⟨x,hx⟩:∃ x,ex[k]? = some x:=⟨ex[k],List.getElem?_eq_getElem (by omega)⟩
 have hg:=own_get (e ▸ h.own) (o:=k * 5 + 0) (flat_get elC 5 elC_len ex k x hx 0 (by decide))
 have hd:=h.d6 x (List.mem_of_getElem? hx)
 rw [hl] at e
 exact ⟨g,c,x.e.d,x,e,hg.1,hg.2.2.2,hg.2.2.1,hx,rfl,hd.1,hd.2⟩
theorem dep_snoc {es:List El} {k:Nat} {a b:El} (h:Dep es) (hl:es.length = k + 1) (ha:es[k]? = some a) (h2:2 ≤ b.d) (hb:b.d ≤ a.d + 1):Dep (es ++ [b]):=by
 refine ⟨fun e he=>h.z e ?_,fun i x y hx hy=>?_⟩
 ·rwa [List.getElem?_append_left (by omega)] at he
 ·by_cases hi:i + 1 < es.length
  ·rw [List.getElem?_append_left (by omega)] at hx hy
   exact h.s i x y hx hy
  ·have hlt:=(List.getElem?_eq_some_iff.1 hy).1
   rw [List.length_append,List.length_singleton] at hlt
   obtain rfl:i = k:=by omega
   rw [List.getElem?_append_left (by omega),ha] at hx
   rw [List.getElem?_append_right (by omega),hl,Nat.sub_self] at hy
   cases hx;cases hy
   exact ⟨h2,hb⟩
structure MX (W:World) (bot:Nat) (vE:Value) (f:Nat → Rw) (ex:List Elx) (X:Nat) (x:Elx):Prop where
 pf:PF W bot f
 f0:f 0 = elR vE ex
 fa:∀ i y,ex[i]? = some y → f (1 + i) = atR y
 fx:f (1 + ex.length) = atR x
 b:W.heap[X]? = some (.cells #[.int .i64 x.e.d,.string x.e.nm,x.av,.string x.e.tx,.int .i64 x.e.p] 32 (0,0))
 ap:∀ c,(f c).v.ownBlock ≠ some X
 hX:bot ≤ X
theorem MX.below {W W':World} {bot:Nat} {vE:Value} {f:Nat → Rw} {ex:List Elx} {X:Nat} {x:Elx} (h:MX W bot vE f ex X x) (hb:Below W.heap.size W W'):MX W' bot vE f ex X x :=
 ⟨h.pf.keep hb,h.f0,h.fa,h.fx,(hb.block X (Array.getElem?_eq_some_iff.1 h.b).1).trans h.b,h.ap,h.hX⟩
theorem MD.box {W W':World} {bot X:Nat} {vE:Value} {f:Nat → Rw} {ex:List Elx} {z:Int} {t1 t2:ByteArray} (h:MD W bot vE f ex) (hb:Below W.heap.size W W') (hX:W.heap.size ≤ X) (hbot:bot ≤ W.heap.size) (hx:W'.heap[X]? = some (.cells #[.int .i64 z,.string t1,.slice none 0 0,.string t2,.int .i64 0] 32 (0,0))) :
  MX W' bot vE (upF f (1 + ex.length) ⟨54,3,.slice none 0 0,0,[]⟩) ex X ⟨⟨z,t1,[],t2,0⟩,.slice none 0 0⟩:=by
 refine ⟨(h.pf.keep hb).nil _ rfl rfl rfl,?_,fun i y hy=>?_,upF_same _ _ _,hx,fun c e=>?_,by omega⟩
 ·rw [upF_ne _ _ _ (by omega)];exact h.f0
 ·have:=(List.getElem?_eq_some_iff.1 hy).1
  rw [upF_ne _ _ _ (by omega)];exact h.fa i y hy
 ·by_cases hc:c = 1 + ex.length
  ·subst hc;rw [upF_same] at e;cases e
  ·rw [upF_ne _ _ _ hc] at e
   have:=(h.pf.lt c e).2
   omega
theorem hset_at {W:World} {g o:Nat} {cs:Array Value} {t:TypeId} (h:W.heap[g]? = some (.cells cs t (0,0))) (u:Value):(W.setCell ⟨g,o,none⟩ u).heap[g]? = some (.cells (cs.setIfInBounds o u) t (0,0)):=by
 have e:(W.setCell ⟨g,o,none⟩ u).heap = W.heap.modify g (fun x=>match x with
  | .cells cs t f=>.cells (cs.setIfInBounds o u) t f
  | x=>x):=rfl
 rw [e,Array.getElem?_modify,if_pos rfl,h]
 rfl
theorem PF.far {W:World} {bot X o:Nat} {u:Value} {f:Nat → Rw} (h:PF W bot f) (ha:∀ c,(f c).v.ownBlock ≠ some X):PF (W.setCell ⟨X,o,none⟩ u) bot f :=
 ⟨fun c=>ownSame (h.own c) fun k hk=>Below.heap_setCell _ _ _ _ fun e=>ha c (by rw [hk,e]),h.apart⟩
abbrev attM (t u:ByteArray):Obj:=.cells #[.string t,.string u,.int .i64 0] 54
theorem MX.attr {W:World} {bot:Nat} {vE:Value} {f:Nat → Rw} {ex:List Elx} {X:Nat} {x:Elx} {pa:Option Addr} {n ca:Nat} (h:MX W bot vE f ex X x) (hx:x.av = .slice pa n ca) (hn:x.e.ats.length = n) (h24:n ≤ 24) (hbot:bot ≤ W.heap.size) (t u:ByteArray) :
  ∃ p3 c3 w3,(∀ ty,(Builtin.append_ #[30,30] ty #[.slice pa n ca,.slice (some ⟨W.heap.size,0,none⟩) 1 1]).run Tryz.prog (W.alloc (attM t u)) = .ok (.slice p3 (n + 1) c3) w3) ∧ w3.cell? ⟨X,2,none⟩ = some (.slice pa n ca) ∧ w3.frozen? ⟨X,2,none⟩ = false ∧
   Below bot W (w3.setCell ⟨X,2,none⟩ (.slice p3 (n + 1) c3)) ∧ ∃ f',MX (w3.setCell ⟨X,2,none⟩ (.slice p3 (n + 1) c3)) bot vE f' ex X ⟨⟨x.e.d,x.e.nm,x.e.ats ++ [⟨t,u,0⟩],x.e.tx,x.e.p⟩,.slice p3 (n + 1) c3⟩:=by
 have hb1:=bel1 W (attM t u)
 have h1:=h.below hb1
 have hO:(W.alloc (attM t u)).ownsRow bot 54 3 (.slice pa n ca) n (attCells x.e.ats):=by
  have:=h1.pf.own (1 + ex.length)
  rw [h1.fx] at this
  unfold Rw.own atR at this
  rw [hx,hn] at this
  exact this
 have hfv:(f (1 + ex.length)).v = .slice pa n ca:=by rw [h.fx,← hx];rfl
 obtain ⟨v3,w3,q1,q2,q3,q4⟩:=ap1 (t:=30) Tryz.underlying30 infoAt rfl (by decide) hO (theap_new W (attM t u)) rfl (fun u hu=>by simp only [List.mem_cons,List.not_mem_nil,or_false] at hu;rcases hu with rfl | rfl | rfl <;> rfl) (by omega) (by decide) (Nat.le_trans hbot hb1.size)
 obtain ⟨p3,c3,rfl⟩:=own_sl q2
 have hXl:X < (W.alloc (attM t u)).heap.size:=(Array.getElem?_eq_some_iff.1 h1.b).1
 have hk:w3.heap[X]? = (W.alloc (attM t u)).heap[X]?:=q3.block X hXl fun e=>h1.ap (1 + ex.length) (by rw [hfv];exact e.symm)
 have hg:∀ k,(Value.slice pa n ca).ownBlock = some k → bot ≤ k:=fun k hk=>(ownLt hO hk).1
 have hP:=pf_app h1.pf (Below.refl _ _) (1 + ex.length) (W':=w3) (r:=atR ⟨⟨x.e.d,x.e.nm,x.e.ats ++ [⟨t,u,0⟩],x.e.tx,x.e.p⟩,.slice p3 (n + 1) c3⟩) (by
  unfold Rw.own atR attCells
  rw [List.length_append,List.flatMap_append,hn]
  exact q2) (by rw [hfv];exact q3) (by rw [hfv];exact q4)
 have hc:w3.heap[X]? = some (.cells #[.int .i64 x.e.d,.string x.e.nm,.slice pa n ca,.string x.e.tx,.int .i64 x.e.p] 32 (0,0)):=by rw [hk,h1.b,hx]
 have hap:∀ c,(upF f (1 + ex.length) (atR ⟨⟨x.e.d,x.e.nm,x.e.ats ++ [⟨t,u,0⟩],x.e.tx,x.e.p⟩,.slice p3 (n + 1) c3⟩) c).v.ownBlock ≠ some X:=fun c e=>by
  by_cases hcc:c = 1 + ex.length
  ·subst hcc
   rw [upF_same] at e
   rcases q4 with q | q
   ·exact h1.ap (1 + ex.length) (by rw [hfv,← q];exact e)
   ·have e':(Value.slice p3 (n + 1) c3).ownBlock = some X:=e
    rw [q] at e'
    injection e' with e'
    omega
  ·rw [upF_ne _ _ _ hcc] at e
   exact h1.ap c e
 refine ⟨p3,c3,w3,q1,by simp only [World.cell?,hc];rfl,by simp only [World.frozen?,hc];simp,?_,_,hP.far hap,?_,fun i y hy=>?_,upF_same _ _ _,?_,hap,h.hX⟩
 ·exact (((hb1.mono hbot).trans (Below.refl bot _)).grown q3 (Nat.le_trans hbot hb1.size) hg).setCell h.hX _
 ·rw [upF_ne _ _ _ (by omega)];exact h.f0
 ·have:=(List.getElem?_eq_some_iff.1 hy).1
  rw [upF_ne _ _ _ (by omega)];exact h.fa i y hy
 ·rw [hset_at hc]
  rfl
theorem MX.done {W:World} {bot:Nat} {vE:Value} {f:Nat → Rw} {ex:List Elx} {X k:Nat} {x:Elx} (h:MX W bot vE f ex X x) (hl:ex.length = k + 1) (hk:k ≤ 100) (hbot:bot ≤ W.heap.size) (hdp:Dep (ex.map Elx.e)) (hd6:∀ x ∈ ex,1 ≤ x.e.d ∧ x.e.d ≤ 16) {y:Elx} (hy:ex[k]? = some y) (h2:2 ≤ x.e.d) (h3:x.e.d ≤ y.e.d + 1) (h16:x.e.d ≤ 16) :
  ∃ p3 c3 w3,(∀ ty,(Builtin.append_ #[24,24] ty #[vE,.slice (some ⟨W.heap.size,0,none⟩) 1 1]).run Tryz.prog (W.alloc (.cells #[.int .i64 x.e.d,.string x.e.nm,x.av,.string x.e.tx,.int .i64 x.e.p] 32)) = .ok (.slice p3 (k + 1 + 1) c3) w3) ∧ Below bot W w3 ∧ ∃ f',MD w3 bot (.slice p3 (k + 1 + 1) c3) f' (ex ++ [x]):=by
 have hb1:=bel1 W (.cells #[.int .i64 x.e.d,.string x.e.nm,x.av,.string x.e.tx,.int .i64 x.e.p] 32)
 have h1:=h.below hb1
 have hav:∃ pa ca,x.av = .slice pa x.e.ats.length ca:=by
  have:=h.pf.own (1 + ex.length)
  rw [h.fx] at this
  exact own_sl this
 have hO:(W.alloc (.cells #[.int .i64 x.e.d,.string x.e.nm,x.av,.string x.e.tx,.int .i64 x.e.p] 32)).ownsRow bot 32 5 vE (k + 1) (ex.flatMap elC):=by
  have:=h1.pf.own 0
  rw [h1.f0] at this
  unfold Rw.own elR at this
  rwa [hl] at this
 have hfv:(f 0).v = vE:=by rw [h.f0];rfl
 obtain ⟨v3,w3,q1,q2,q3,q4⟩:=ap1 (t:=24) Tryz.underlying24 infoEl rfl (by decide) hO (theap_new W _) rfl (fun u hu=>by
  obtain ⟨pa,ca,e⟩:=hav
  simp only [List.mem_cons,List.not_mem_nil,or_false] at hu
  rcases hu with rfl | rfl | rfl | rfl | rfl
  ·rfl
  ·rfl
  ·rw [e];rfl
  ·rfl
  ·rfl) (by omega) (by decide) (Nat.le_trans hbot hb1.size)
 obtain ⟨p3,c3,rfl⟩:=own_sl q2
 have hg:∀ k,vE.ownBlock = some k → bot ≤ k:=fun k hk=>(ownLt hO hk).1
 have hP:=pf_app h1.pf (Below.refl _ _) 0 (W':=w3) (r:=elR (.slice p3 (k + 1 + 1) c3) (ex ++ [x])) (by
  unfold Rw.own elR
  rw [List.length_append,List.flatMap_append,hl]
  exact q2) (by rw [hfv];exact q3) (by rw [hfv];exact q4)
 refine ⟨p3,c3,w3,q1,((hb1.mono hbot).trans (Below.refl bot _)).grown q3 (Nat.le_trans hbot hb1.size) hg,_,hP,upF_same _ _ _,fun i y' hy'=>?_,?_,fun z hz=>?_⟩
 ·rw [upF_ne _ _ _ (by omega)]
  by_cases hi:i < ex.length
  ·rw [List.getElem?_append_left hi] at hy'
   exact h.fa i y' hy'
  ·have hlt:=(List.getElem?_eq_some_iff.1 hy').1
   rw [List.length_append,List.length_singleton] at hlt
   obtain rfl:i = ex.length:=by omega
   rw [List.getElem?_append_right (Nat.le_refl _),Nat.sub_self] at hy'
   cases hy'
   exact h.fx
 ·rw [List.map_append]
  exact dep_snoc hdp (by rw [List.length_map];exact hl) (by rw [List.getElem?_map,hy];rfl) h2 h3
 ·rcases List.mem_append.1 hz with hz | hz
  ·exact hd6 z hz
  ·rw [List.mem_singleton] at hz
   subst hz
   omega
open Go.Shelf
theorem SdRow.below {w w':World} {pp:Option Addr} {H:Nat} {sd:List Sd} (h:SdRow w pp H sd) (hb:Below H w w'):SdRow w' pp H sd :=
 ⟨fun i e he=>by
  obtain ⟨g,o,pa,ca,e0,hg,c0,c1,c2,c3,hS⟩:=h.c i e he
  exact ⟨g,o,pa,ca,e0,hg,(hb.cell (p:=⟨g,_,none⟩) hg).trans c0,(hb.cell (p:=⟨g,_,none⟩) hg).trans c1,(hb.cell (p:=⟨g,_,none⟩) hg).trans c2,(hb.cell (p:=⟨g,_,none⟩) hg).trans c3,⟨fun j s hs=>by
   obtain ⟨g',o',e',hg',hc'⟩:=hS.c j s hs
   exact ⟨g',o',e',hg',(hb.cell (p:=⟨g',_,none⟩) hg').trans hc'⟩⟩⟩⟩
theorem SdRow.mono {w:World} {pp:Option Addr} {H H':Nat} {sd:List Sd} (h:SdRow w pp H sd) (hH:H ≤ H'):SdRow w pp H' sd :=
 ⟨fun i e he=>by
  obtain ⟨g,o,pa,ca,e0,hg,c0,c1,c2,c3,hS⟩:=h.c i e he
  exact ⟨g,o,pa,ca,e0,by omega,c0,c1,c2,c3,⟨fun j s hs=>by
   obtain ⟨g',o',e',hg',hc'⟩:=hS.c j s hs
   exact ⟨g',o',e',by omega,hc'⟩⟩⟩⟩
theorem MD.erow {W:World} {bot:Nat} {vE:Value} {f:Nat → Rw} {ex:List Elx} (h:MD W bot vE f ex):∃ p c,vE = .slice p ex.length c ∧ ERow W p W.heap.size (ex.map Elx.e):=by
 obtain ⟨p,c,e6⟩:=own_sl h.own
 refine ⟨p,c,e6,⟨fun i e hi=>?_⟩⟩
 rw [List.getElem?_map] at hi
 obtain ⟨x,hx,rfl⟩:=Option.map_eq_some_iff.1 hi
 have h1:=h.own
 obtain ⟨g,cap,eg⟩:=own_shape h1 (show 0 < ex.length by have:=(List.getElem?_eq_some_iff.1 hx).1;omega)
 rw [e6] at eg
 injection eg with eg _ _
 subst eg
 rw [e6] at h1
 have a0:=own_get h1 (o:=i * 5 + 0) (flat_get elC 5 elC_len _ i x hx 0 (by decide))
 have a1:=own_get h1 (o:=i * 5 + 1) (flat_get elC 5 elC_len _ i x hx 1 (by decide))
 have a2:=own_get h1 (o:=i * 5 + 2) (flat_get elC 5 elC_len _ i x hx 2 (by decide))
 have a3:=own_get h1 (o:=i * 5 + 3) (flat_get elC 5 elC_len _ i x hx 3 (by decide))
 have a4:=own_get h1 (o:=i * 5 + 4) (flat_get elC 5 elC_len _ i x hx 4 (by decide))
 have hA:W.ownsRow bot 54 3 x.av x.e.ats.length (attCells x.e.ats):=by
  have:=h.pf.own (1 + i)
  rw [h.fa i x hx] at this
  exact this
 have hAr:∃ pa ca,x.av = .slice pa x.e.ats.length ca ∧ ARow W pa W.heap.size x.e.ats:=by
  rcases hA.2 with ⟨e1,h0⟩ | ⟨g',cap',cur,e1,hb,hg,hn,hm,hs,hxx⟩
  ·refine ⟨none,0,by rw [e1,h0],⟨fun j t ht=>?_⟩⟩
   rw [List.eq_nil_of_length_eq_zero h0] at ht
   cases ht
  ·refine ⟨_,cap',e1,⟨fun j t ht=>?_⟩⟩
   rw [e1] at hA
   have b0:=own_get hA (o:=j * 3 + 0) (flat_get attC 3 (fun _=>rfl) _ j t ht 0 (by decide))
   have b1:=own_get hA (o:=j * 3 + 1) (flat_get attC 3 (fun _=>rfl) _ j t ht 1 (by decide))
   have b2:=own_get hA (o:=j * 3 + 2) (flat_get attC 3 (fun _=>rfl) _ j t ht 2 (by decide))
   exact ⟨g',0,rfl,(Array.getElem?_eq_some_iff.1 hg).1,by rw [Nat.zero_add];exact b0.1,by rw [Nat.zero_add];exact b1.1,by rw [Nat.zero_add];exact b2.1⟩
 obtain ⟨pa,ca,hav,hAR⟩:=hAr
 refine ⟨g,0,pa,ca,rfl,a0.2.2.2,?_,?_,?_,?_,?_,hAR⟩
 ·rw [Nat.zero_add];exact a0.1
 ·rw [Nat.zero_add];exact a1.1
 ·rw [Nat.zero_add,← hav];exact a2.1
 ·rw [Nat.zero_add];exact a3.1
 ·rw [Nat.zero_add];exact a4.1
theorem ent_name:∀ ag w,(callFunc 21 ag).run Tryz.prog w = .ok (.enter 21 ag) w:=enters_of Tryz.func21 (by kernel_rfl) rfl
theorem ent_value:∀ ag w,(callFunc 22 ag).run Tryz.prog w = .ok (.enter 22 ag) w:=enters_of Tryz.func22 (by kernel_rfl) rfl
theorem lt_of_heap {W:World} {G:Nat} {x:Obj} (h:W.heap[G]? = some x):G < W.heap.size:=(Array.getElem?_eq_some_iff.1 h).1
theorem lit1_conv {W:World} {G n:Nat} {z:Int} (h:W.heap[G]? = some (.cells #[.int .u8 z] 5)) (hz:z = (n:Int)):(convert 59 9 (.slice (some ⟨G,0,none⟩) 1 1)).run Tryz.prog W = .ok (.string (sOf [n])) W:=by
 subst hz
 exact BufM.conv (B:=0) (L:=[n]) (.inr ⟨G,(0,0),rfl,Nat.zero_le _,h⟩)
def cutZ (s:ByteArray) (er p:Nat):ByteArray:=if er ≠ 0 ∧ p ≤ s.size then s.extract 0 p else s
theorem cutZ_no {s:ByteArray} {er p:Nat} (h:er = 0 ∨ ¬ p ≤ s.size):cutZ s er p = s:=by
 unfold cutZ
 rw [if_neg]
 rintro ⟨h1,h2⟩
 rcases h with h | h
 ·exact h1 h
 ·exact h h2
theorem cutZ_yes {s:ByteArray} {er p:Nat} (h:¬ er = 0) (hp:p ≤ s.size):cutZ s er p = s.extract 0 p:=by unfold cutZ;rw [if_pos ⟨h,hp⟩]
def valZ (s:ByteArray):ByteArray:=if 40 < (cutZ s (faultN xmlB s).1 (faultN xmlB s).2).size then ⟨#[]⟩ else cutZ s (faultN xmlB s).1 (faultN xmlB s).2
theorem valZ_size (s:ByteArray):(valZ s).size ≤ 40:=by
 unfold valZ
 split
 ·exact Nat.zero_le _
 ·omega
theorem lnameX_any (s:ByteArray) (w:World):Calls Tryz.prog 21 #[.string s] w fun e w'=>∃ j:Nat,j ≤ 12 ∧ e = .returned (.string (sOf (nameL s j))) ∧ Below w.heap.size w w':=by
 have kc:=fun (w:World) (C:Array Value) (n c:Nat)=>Lib.run_convert_bytes_const (P:=Tryz.prog) w 59 5 C n c Tryz.underlying59 Tryz.underlying5
 go_enter Tryz.func21,Tryz.ntmps21
 go_wp2_with fail
 go_loopw [3,4] (fun bv i wr=>∃ j:Nat,j ≤ s.size ∧ j ≤ 12 ∧ i = .int .i64 (j:Int) ∧ BufM wr w.heap.size bv (nameL s j) ∧ Below w.heap.size w wr) (fun _ i _=>12 - (RowKit.intOf i).toNat)
 case atStart=>exact ⟨0,Nat.zero_le _,Nat.zero_le _,rfl,BufM.lit w _ _ _ rfl _ rfl _ (Nat.le_refl _),(Below.refl _ _).alloc (Nat.le_refl _) _⟩
 case round =>
  obtain ⟨j,hj,hj12,rfl,hB,hb⟩:=hrel
  by_cases hlt:j < s.size ∧ j < 12
  ·have t1:(j:Int) < s.size:=by omega
   have t2:(j:Int) < 12:=by omega
   have hix:=fun w=>nidx (w:=w) s j hlt.1 .i64
   have hlen:=nameL_len s j
   have h255:=ch_lt s j
   obtain ⟨v',w',hrun,hB',hb'⟩:=bufm_one hB (ch s j) (by omega) hb.size
   clear hlen
   by_cases hc0:0 ≤ ch s j ∧ ch s j ≤ 44
   ·obtain ⟨hlo,hhi⟩:=hc0
    have f0:¬ (97:Int) ≤ (ch s j:Int):=by omega
    have f1:(ch s j:Int) ≤ 122:=by omega
    have f2:¬ (65:Int) ≤ (ch s j:Int):=by omega
    have f3:(ch s j:Int) ≤ 90:=by omega
    have f4:¬ (48:Int) ≤ (ch s j:Int):=by omega
    have f5:(ch s j:Int) ≤ 57:=by omega
    have f6:¬ (ch s j:Int) = 45:=by omega
    have g6:((ch s j:Int) == 45) = false:=beq_eq_false_iff_ne.2 f6
    have f7:¬ (ch s j:Int) = 58:=by omega
    have g7:((ch s j:Int) == 58) = false:=beq_eq_false_iff_ne.2 f7
    have hno:nmOk (ch s j) = false:=by unfold nmOk;simp;omega
    have hz:=nameL_no s hlt.1 hno
    clear hno hlo hhi hrun hB' hb'
    go_wp2_with fail
    go_roundw
    case rel=>exact ⟨j + 1,by omega,by omega,by go_num,by rw [hz];exact hB,hb⟩
    case measure=>simp [RowKit.intOf];omega
   by_cases hc1:45 ≤ ch s j ∧ ch s j ≤ 45
   ·obtain ⟨hlo,hhi⟩:=hc1
    have f0:¬ (97:Int) ≤ (ch s j:Int):=by omega
    have f1:(ch s j:Int) ≤ 122:=by omega
    have f2:¬ (65:Int) ≤ (ch s j:Int):=by omega
    have f3:(ch s j:Int) ≤ 90:=by omega
    have f4:¬ (48:Int) ≤ (ch s j:Int):=by omega
    have f5:(ch s j:Int) ≤ 57:=by omega
    have f6:(ch s j:Int) = 45:=by omega
    have g6:((ch s j:Int) == 45) = true:=beq_iff_eq.2 f6
    have f7:¬ (ch s j:Int) = 58:=by omega
    have g7:((ch s j:Int) == 58) = false:=beq_eq_false_iff_ne.2 f7
    rw [f6] at hrun
    have hno:nmOk (ch s j) = true:=by unfold nmOk;simp;omega
    have hz:=nameL_yes s hlt.1 hno
    clear hno hlo hhi
    go_wp2_with (at_builtin;refine (wpList_append_ex (by rfl) _ _ _ _ (by rfl) _ _ (by rfl) (by rfl) (fun a b=>a = v' ∧ b = w') ⟨v',w',hrun,rfl,rfl⟩ ?_);rintro _ _ ⟨rfl,rfl⟩)
    go_roundw
    case rel=>exact ⟨j + 1,by omega,by omega,by go_num,by rw [hz];exact hB',hb.trans hb'⟩
    case measure=>simp [RowKit.intOf];omega
   by_cases hc2:46 ≤ ch s j ∧ ch s j ≤ 47
   ·obtain ⟨hlo,hhi⟩:=hc2
    have f0:¬ (97:Int) ≤ (ch s j:Int):=by omega
    have f1:(ch s j:Int) ≤ 122:=by omega
    have f2:¬ (65:Int) ≤ (ch s j:Int):=by omega
    have f3:(ch s j:Int) ≤ 90:=by omega
    have f4:¬ (48:Int) ≤ (ch s j:Int):=by omega
    have f5:(ch s j:Int) ≤ 57:=by omega
    have f6:¬ (ch s j:Int) = 45:=by omega
    have g6:((ch s j:Int) == 45) = false:=beq_eq_false_iff_ne.2 f6
    have f7:¬ (ch s j:Int) = 58:=by omega
    have g7:((ch s j:Int) == 58) = false:=beq_eq_false_iff_ne.2 f7
    have hno:nmOk (ch s j) = false:=by unfold nmOk;simp;omega
    have hz:=nameL_no s hlt.1 hno
    clear hno hlo hhi hrun hB' hb'
    go_wp2_with fail
    go_roundw
    case rel=>exact ⟨j + 1,by omega,by omega,by go_num,by rw [hz];exact hB,hb⟩
    case measure=>simp [RowKit.intOf];omega
   by_cases hc3:48 ≤ ch s j ∧ ch s j ≤ 57
   ·obtain ⟨hlo,hhi⟩:=hc3
    have f0:¬ (97:Int) ≤ (ch s j:Int):=by omega
    have f1:(ch s j:Int) ≤ 122:=by omega
    have f2:¬ (65:Int) ≤ (ch s j:Int):=by omega
    have f3:(ch s j:Int) ≤ 90:=by omega
    have f4:(48:Int) ≤ (ch s j:Int):=by omega
    have f5:(ch s j:Int) ≤ 57:=by omega
    have f6:¬ (ch s j:Int) = 45:=by omega
    have g6:((ch s j:Int) == 45) = false:=beq_eq_false_iff_ne.2 f6
    have f7:¬ (ch s j:Int) = 58:=by omega
    have g7:((ch s j:Int) == 58) = false:=beq_eq_false_iff_ne.2 f7
    have hno:nmOk (ch s j) = true:=by unfold nmOk;simp;omega
    have hz:=nameL_yes s hlt.1 hno
    clear hno hlo hhi
    go_wp2_with (at_builtin;refine (wpList_append_ex (by rfl) _ _ _ _ (by rfl) _ _ (by rfl) (by rfl) (fun a b=>a = v' ∧ b = w') ⟨v',w',hrun,rfl,rfl⟩ ?_);rintro _ _ ⟨rfl,rfl⟩)
    go_roundw
    case rel=>exact ⟨j + 1,by omega,by omega,by go_num,by rw [hz];exact hB',hb.trans hb'⟩
    case measure=>simp [RowKit.intOf];omega
   by_cases hc4:58 ≤ ch s j ∧ ch s j ≤ 58
   ·obtain ⟨hlo,hhi⟩:=hc4
    have f0:¬ (97:Int) ≤ (ch s j:Int):=by omega
    have f1:(ch s j:Int) ≤ 122:=by omega
    have f2:¬ (65:Int) ≤ (ch s j:Int):=by omega
    have f3:(ch s j:Int) ≤ 90:=by omega
    have f4:(48:Int) ≤ (ch s j:Int):=by omega
    have f5:¬ (ch s j:Int) ≤ 57:=by omega
    have f6:¬ (ch s j:Int) = 45:=by omega
    have g6:((ch s j:Int) == 45) = false:=beq_eq_false_iff_ne.2 f6
    have f7:(ch s j:Int) = 58:=by omega
    have g7:((ch s j:Int) == 58) = true:=beq_iff_eq.2 f7
    rw [f7] at hrun
    have hno:nmOk (ch s j) = true:=by unfold nmOk;simp;omega
    have hz:=nameL_yes s hlt.1 hno
    clear hno hlo hhi
    go_wp2_with (at_builtin;refine (wpList_append_ex (by rfl) _ _ _ _ (by rfl) _ _ (by rfl) (by rfl) (fun a b=>a = v' ∧ b = w') ⟨v',w',hrun,rfl,rfl⟩ ?_);rintro _ _ ⟨rfl,rfl⟩)
    go_roundw
    case rel=>exact ⟨j + 1,by omega,by omega,by go_num,by rw [hz];exact hB',hb.trans hb'⟩
    case measure=>simp [RowKit.intOf];omega
   by_cases hc5:59 ≤ ch s j ∧ ch s j ≤ 64
   ·obtain ⟨hlo,hhi⟩:=hc5
    have f0:¬ (97:Int) ≤ (ch s j:Int):=by omega
    have f1:(ch s j:Int) ≤ 122:=by omega
    have f2:¬ (65:Int) ≤ (ch s j:Int):=by omega
    have f3:(ch s j:Int) ≤ 90:=by omega
    have f4:(48:Int) ≤ (ch s j:Int):=by omega
    have f5:¬ (ch s j:Int) ≤ 57:=by omega
    have f6:¬ (ch s j:Int) = 45:=by omega
    have g6:((ch s j:Int) == 45) = false:=beq_eq_false_iff_ne.2 f6
    have f7:¬ (ch s j:Int) = 58:=by omega
    have g7:((ch s j:Int) == 58) = false:=beq_eq_false_iff_ne.2 f7
    have hno:nmOk (ch s j) = false:=by unfold nmOk;simp;omega
    have hz:=nameL_no s hlt.1 hno
    clear hno hlo hhi hrun hB' hb'
    go_wp2_with fail
    go_roundw
    case rel=>exact ⟨j + 1,by omega,by omega,by go_num,by rw [hz];exact hB,hb⟩
    case measure=>simp [RowKit.intOf];omega
   by_cases hc6:65 ≤ ch s j ∧ ch s j ≤ 90
   ·obtain ⟨hlo,hhi⟩:=hc6
    have f0:¬ (97:Int) ≤ (ch s j:Int):=by omega
    have f1:(ch s j:Int) ≤ 122:=by omega
    have f2:(65:Int) ≤ (ch s j:Int):=by omega
    have f3:(ch s j:Int) ≤ 90:=by omega
    have f4:(48:Int) ≤ (ch s j:Int):=by omega
    have f5:¬ (ch s j:Int) ≤ 57:=by omega
    have f6:¬ (ch s j:Int) = 45:=by omega
    have g6:((ch s j:Int) == 45) = false:=beq_eq_false_iff_ne.2 f6
    have f7:¬ (ch s j:Int) = 58:=by omega
    have g7:((ch s j:Int) == 58) = false:=beq_eq_false_iff_ne.2 f7
    have hno:nmOk (ch s j) = true:=by unfold nmOk;simp;omega
    have hz:=nameL_yes s hlt.1 hno
    clear hno hlo hhi
    go_wp2_with (at_builtin;refine (wpList_append_ex (by rfl) _ _ _ _ (by rfl) _ _ (by rfl) (by rfl) (fun a b=>a = v' ∧ b = w') ⟨v',w',hrun,rfl,rfl⟩ ?_);rintro _ _ ⟨rfl,rfl⟩)
    go_roundw
    case rel=>exact ⟨j + 1,by omega,by omega,by go_num,by rw [hz];exact hB',hb.trans hb'⟩
    case measure=>simp [RowKit.intOf];omega
   by_cases hc7:91 ≤ ch s j ∧ ch s j ≤ 96
   ·obtain ⟨hlo,hhi⟩:=hc7
    have f0:¬ (97:Int) ≤ (ch s j:Int):=by omega
    have f1:(ch s j:Int) ≤ 122:=by omega
    have f2:(65:Int) ≤ (ch s j:Int):=by omega
    have f3:¬ (ch s j:Int) ≤ 90:=by omega
    have f4:(48:Int) ≤ (ch s j:Int):=by omega
    have f5:¬ (ch s j:Int) ≤ 57:=by omega
    have f6:¬ (ch s j:Int) = 45:=by omega
    have g6:((ch s j:Int) == 45) = false:=beq_eq_false_iff_ne.2 f6
    have f7:¬ (ch s j:Int) = 58:=by omega
    have g7:((ch s j:Int) == 58) = false:=beq_eq_false_iff_ne.2 f7
    have hno:nmOk (ch s j) = false:=by unfold nmOk;simp;omega
    have hz:=nameL_no s hlt.1 hno
    clear hno hlo hhi hrun hB' hb'
    go_wp2_with fail
    go_roundw
    case rel=>exact ⟨j + 1,by omega,by omega,by go_num,by rw [hz];exact hB,hb⟩
    case measure=>simp [RowKit.intOf];omega
   by_cases hc8:97 ≤ ch s j ∧ ch s j ≤ 122
   ·obtain ⟨hlo,hhi⟩:=hc8
    have f0:(97:Int) ≤ (ch s j:Int):=by omega
    have f1:(ch s j:Int) ≤ 122:=by omega
    have f2:(65:Int) ≤ (ch s j:Int):=by omega
    have f3:¬ (ch s j:Int) ≤ 90:=by omega
    have f4:(48:Int) ≤ (ch s j:Int):=by omega
    have f5:¬ (ch s j:Int) ≤ 57:=by omega
    have f6:¬ (ch s j:Int) = 45:=by omega
    have g6:((ch s j:Int) == 45) = false:=beq_eq_false_iff_ne.2 f6
    have f7:¬ (ch s j:Int) = 58:=by omega
    have g7:((ch s j:Int) == 58) = false:=beq_eq_false_iff_ne.2 f7
    have hno:nmOk (ch s j) = true:=by unfold nmOk;simp;omega
    have hz:=nameL_yes s hlt.1 hno
    clear hno hlo hhi
    go_wp2_with (at_builtin;refine (wpList_append_ex (by rfl) _ _ _ _ (by rfl) _ _ (by rfl) (by rfl) (fun a b=>a = v' ∧ b = w') ⟨v',w',hrun,rfl,rfl⟩ ?_);rintro _ _ ⟨rfl,rfl⟩)
    go_roundw
    case rel=>exact ⟨j + 1,by omega,by omega,by go_num,by rw [hz];exact hB',hb.trans hb'⟩
    case measure=>simp [RowKit.intOf];omega
   have hlo:123 ≤ ch s j:=by omega
   have hhi:ch s j ≤ 255:=by omega
   have f0:(97:Int) ≤ (ch s j:Int):=by omega
   have f1:¬ (ch s j:Int) ≤ 122:=by omega
   have f2:(65:Int) ≤ (ch s j:Int):=by omega
   have f3:¬ (ch s j:Int) ≤ 90:=by omega
   have f4:(48:Int) ≤ (ch s j:Int):=by omega
   have f5:¬ (ch s j:Int) ≤ 57:=by omega
   have f6:¬ (ch s j:Int) = 45:=by omega
   have g6:((ch s j:Int) == 45) = false:=beq_eq_false_iff_ne.2 f6
   have f7:¬ (ch s j:Int) = 58:=by omega
   have g7:((ch s j:Int) == 58) = false:=beq_eq_false_iff_ne.2 f7
   have hno:nmOk (ch s j) = false:=by unfold nmOk;simp;omega
   have hz:=nameL_no s hlt.1 hno
   clear hno hlo hhi hrun hB' hb'
   go_wp2_with fail
   go_roundw
   case rel=>exact ⟨j + 1,by omega,by omega,by go_num,by rw [hz];exact hB,hb⟩
   case measure=>simp [RowKit.intOf];omega
  ·have hc:=hB.conv
   by_cases h1:j < s.size
   ·have t1:(j:Int) < s.size:=by omega
    have t2:¬ (j:Int) < 12:=by omega
    go_wp2_with fail
    go_ret
    exact ⟨j,hj12,rfl,hb⟩
   ·have t1:¬ (j:Int) < s.size:=by omega
    go_wp2_with fail
    go_ret
    exact ⟨j,hj12,rfl,hb⟩
theorem lvalueX_any (s:ByteArray) (hs:s.size ≤ 9223372036854775807) (w:World):Calls Tryz.prog 22 #[.string s] w fun e w'=>e = .returned (.string (valZ s)) ∧ Below w.heap.size w w':=by
 have cC:=Chars_all s w hs
 unfold valZ
 generalize (faultN xmlB s).1 = er at cC ⊢
 generalize (faultN xmlB s).2 = p at cC ⊢
 have p0:(0:Int) ≤ p:=by omega
 by_cases h0:er = 0
 ·subst h0
  by_cases h4:(40:Int) < s.size
  ·rw [cutZ_no (.inl rfl),if_pos (by omega)]
   go_enter Tryz.func22,Tryz.ntmps22
   go_wp2_with (first | (go_at_call 39;refine cC.mono ?_;rintro _ w1 ⟨rfl,hb⟩) | (go_at_call 12;refine (nnum_any _ _).mono ?_;rintro _ w' ⟨rfl,hw'⟩;replace hw':=hw'.symm;subst hw'))
   go_ret
   exact ⟨rfl,hb⟩
  ·rw [cutZ_no (.inl rfl),if_neg (by omega)]
   go_enter Tryz.func22,Tryz.ntmps22
   go_wp2_with (first | (go_at_call 39;refine cC.mono ?_;rintro _ w1 ⟨rfl,hb⟩) | (go_at_call 12;refine (nnum_any _ _).mono ?_;rintro _ w' ⟨rfl,hw'⟩;replace hw':=hw'.symm;subst hw'))
   go_ret
   exact ⟨rfl,hb⟩
 ·have z1:¬ (er:Int) = 0:=by omega
  have z2:((er:Int) == 0) = false:=beq_eq_false_iff_ne.2 z1
  by_cases hp:p ≤ s.size
  ·have hp':(p:Int) ≤ s.size:=by omega
   have hsl:=fun w=>lslice_to s p hp w
   have hz:(s.extract 0 p).size = p:=by rw [ByteArray.size_extract];omega
   by_cases h4:(40:Int) < p
   ·rw [cutZ_yes h0 hp,if_pos (by rw [hz];omega)]
    go_enter Tryz.func22,Tryz.ntmps22
    go_wp2_with (first | (go_at_call 39;refine cC.mono ?_;rintro _ w1 ⟨rfl,hb⟩) | (go_at_call 12;refine (nnum_any _ _).mono ?_;rintro _ w' ⟨rfl,hw'⟩;replace hw':=hw'.symm;subst hw'))
    go_ret
    exact ⟨rfl,hb⟩
   ·rw [cutZ_yes h0 hp,if_neg (by rw [hz];omega)]
    go_enter Tryz.func22,Tryz.ntmps22
    go_wp2_with (first | (go_at_call 39;refine cC.mono ?_;rintro _ w1 ⟨rfl,hb⟩) | (go_at_call 12;refine (nnum_any _ _).mono ?_;rintro _ w' ⟨rfl,hw'⟩;replace hw':=hw'.symm;subst hw'))
    go_ret
    exact ⟨rfl,hb⟩
  ·have hp':¬ (p:Int) ≤ s.size:=by omega
   by_cases h4:(40:Int) < s.size
   ·rw [cutZ_no (.inr hp),if_pos (by omega)]
    go_enter Tryz.func22,Tryz.ntmps22
    go_wp2_with (first | (go_at_call 39;refine cC.mono ?_;rintro _ w1 ⟨rfl,hb⟩) | (go_at_call 12;refine (nnum_any _ _).mono ?_;rintro _ w' ⟨rfl,hw'⟩;replace hw':=hw'.symm;subst hw'))
    go_ret
    exact ⟨rfl,hb⟩
   ·rw [cutZ_no (.inr hp),if_neg (by omega)]
    go_enter Tryz.func22,Tryz.ntmps22
    go_wp2_with (first | (go_at_call 39;refine cC.mono ?_;rintro _ w1 ⟨rfl,hb⟩) | (go_at_call 12;refine (nnum_any _ _).mono ?_;rintro _ w' ⟨rfl,hw'⟩;replace hw':=hw'.symm;subst hw'))
    go_ret
    exact ⟨rfl,hb⟩
open Go
theorem nmOk_nxml {c:Nat} (h:nmOk c = true):nxml c false = true:=by
 unfold nmOk at h
 unfold nxml
 simp only [Bool.or_eq_true,Bool.and_eq_true,decide_eq_true_eq] at h
 have hl:nlet c = true ∨ ndig c = true ∨ c = 45 ∨ c = 58:=by
  unfold nlet ndig
  simp only [Bool.or_eq_true,Bool.and_eq_true,decide_eq_true_eq]
  omega
 rcases hl with hl | hl | hl | hl
 ·rw [hl];simp
 ·rw [hl];simp
 ·subst hl;decide
 ·subst hl;decide
theorem name_of {x:Nat} {L:List Nat} (hx:nxml x true = true) (hx2:x < 256) (hL:∀ c ∈ L,nxml c false = true ∧ c < 256):xmlNameB (sOf (x :: L)) = true:=by
 have hlt:∀ b ∈ x :: L,b < 256:=fun b hb=>by
  rcases List.mem_cons.1 hb with rfl | hb
  ·exact hx2
  ·exact (hL b hb).2
 unfold xmlNameB
 refine decide_eq_true ⟨by rw [sOf_size];simp,fun i hi=>?_⟩
 rw [sOf_size] at hi
 rw [ch_lOf,lOf_sOf _ hlt]
 cases i with
 | zero=>exact hx
 | succ i =>
  rw [List.length_cons] at hi
  have hg:(x :: L).getD (i + 1) 0 = L[i]'(by omega):=by simp [List.getD,show i < L.length by omega]
  rw [hg]
  exact (hL _ (List.getElem_mem _)).1
theorem nameL_mem {s:ByteArray} {j c:Nat} (h:c ∈ ((lOf s).take j).filter nmOk):nxml c false = true ∧ c < 256:=by
 obtain ⟨h1,h2⟩:=List.mem_filter.1 h
 exact ⟨nmOk_nxml h2,lOf_lt s c (List.mem_of_mem_take h1)⟩
theorem nameL_ok (s:ByteArray) (j:Nat):xmlNameB (sOf (nameL s j)) = true:=name_of (by decide) (by decide) fun _ hc=>nameL_mem hc
theorem attL_ok (s:ByteArray) (j k:Nat) (hk:k < 24):xmlNameB (sOf ((97 + k) :: nameL s j)) = true:=by
 refine name_of ?_ (by omega) fun c hc=>?_
 ·have:nlet (97 + k) = true:=by unfold nlet;simp;omega
  unfold nxml
  rw [this]
  simp
 ·rcases List.mem_cons.1 hc with rfl | hc
  ·exact ⟨by decide,by decide⟩
  ·exact nameL_mem hc
def NmL (t:ByteArray):Prop:=∃ s j,j ≤ 12 ∧ t = sOf (nameL s j)
def VlL (t:ByteArray):Prop:=∃ s,t = valZ s
structure MOk (e:El):Prop where
 nm:NmL e.nm ∨ e.nm = ⟨#[114,111,111,116]⟩
 tx:VlL e.tx
 n:e.ats.length ≤ 24
 at_:∀ (q:Nat) (a:Att),e.ats[q]? = some a → ∃ s1,a.nm = sOf [97 + q] ++ s1 ∧ NmL s1 ∧ VlL a.vl
theorem NmL.size {t:ByteArray} (h:NmL t):t.size ≤ 100:=by
 obtain ⟨s,j,hj,rfl⟩:=h
 rw [sOf_size]
 have:=nameL_len s j
 omega
theorem MOk.root:MOk rootX.e:=⟨.inr rfl,⟨⟨#[]⟩,by kernel_rfl⟩,Nat.zero_le _,fun q a h=>by cases h⟩
theorem MOk.new {t1 t2:ByteArray} (h1:NmL t1) (h2:VlL t2) (d p:Int):MOk ⟨d,t1,[],t2,p⟩:=⟨.inl h1,h2,Nat.zero_le _,fun q a h=>by cases h⟩
theorem MOk.more {e:El} {q:Nat} {s1 s2:ByteArray} (h:MOk e) (hq:e.ats.length = q) (h24:q < 24) (h1:NmL s1) (h2:VlL s2):MOk ⟨e.d,e.nm,e.ats ++ [⟨sOf [97 + q] ++ s1,s2,0⟩],e.tx,e.p⟩:=by
 refine ⟨h.nm,h.tx,by show (e.ats ++ [_]).length ≤ 24;rw [List.length_append];simp;omega,fun i a ha=>?_⟩
 by_cases hi:i < e.ats.length
 ·exact h.at_ i a (by rw [← ha];exact (List.getElem?_append_left hi).symm)
 ·have hlt:=(List.getElem?_eq_some_iff.1 ha).1
  have hlt2:i < (e.ats ++ [(⟨sOf [97 + q] ++ s1,s2,0⟩:Att)]).length:=hlt
  rw [List.length_append] at hlt2
  obtain rfl:i = q:=by simp at hlt2;omega
  have e2:(e.ats ++ [(⟨sOf [97 + i] ++ s1,s2,0⟩:Att)])[i]? = some ⟨sOf [97 + i] ++ s1,s2,0⟩:=by rw [List.getElem?_append_right (by omega),hq];simp
  have e3:a = ⟨sOf [97 + i] ++ s1,s2,0⟩:=Option.some.inj (ha.symm.trans e2)
  subst e3
  exact ⟨s1,rfl,h1,h2⟩
structure MIx (w wr:World) (v:Value) (k:Nat) (f:Nat → Rw) (ex:List Elx):Prop where
 d:MD wr w.heap.size v f ex
 l:ex.length = k + 1
 bel:Below w.heap.size w wr
 mo:∀ x ∈ ex,MOk x.e
theorem madeX_any (pp:Option Addr) (cp:Nat) (sd:List Sd) (w:World) (hr:SdRow w pp w.heap.size sd) (hok:SdOk sd) :
  Calls Tryz.prog 8 #[.slice pp sd.length cp] w fun e w'=>∃ v,e = .returned v ∧ ∃ k f ex,k ≤ 60 ∧ MIx w w' v k f ex:=by
 have h0:MIx w (w.alloc (.cells #[.int .i64 1,.string ⟨#[114,111,111,116]⟩,.slice none 0 0,.string ⟨#[]⟩,.int .i64 0] 32)) (.slice (some ⟨w.heap.size,0,none⟩) 1 1) 0 (rootF w.heap.size) [rootX]:=⟨MD.root w,rfl,bel1 w _,fun x hx=>by rcases List.mem_singleton.1 hx with rfl;exact MOk.root⟩
 have hlen:=hok.l
 go_enter Tryz.func8,Tryz.ntmps8
 go_wp2_with fail
 go_loopw [3,4] (fun v i wr=>∃ (k:Nat) (f:Nat → Rw) (ex:List Elx),k ≤ sd.length ∧ k ≤ 60 ∧ i = .int .i64 (k:Int) ∧ MIx w wr v k f ex) (fun _ i _=>60 - (RowKit.intOf i).toNat)
 case atStart=>exact ⟨0,_,_,Nat.zero_le _,Nat.zero_le _,rfl,h0⟩
 case round =>
  obtain ⟨k,f,ex,hk,hk60,rfl,hI⟩:=hrel
  clear h0
  by_cases hlt:k < sd.length ∧ k < 60
  ·obtain ⟨e,he⟩:∃ e,sd[k]? = some e:=⟨sd[k],List.getElem?_eq_getElem hlt.1⟩
   obtain ⟨hl1,hdb,hs1,hs2,hs3⟩:=hok.e e (List.mem_of_getElem? he)
   obtain ⟨g,o,pa,ca,rfl,hg,e0,e1,e2,e3,hS⟩:=hr.c k e he
   obtain ⟨gE,cE,D,y,rfl,hD,hgE,hgE2,hy,hyD,hD1,hD16⟩:=hI.d.last hI.l
   have t1:(k:Int) < sd.length:=by omega
   have t2:(k:Int) < 60:=by omega
   have q0:=(hI.bel.cell (p:=⟨g,o + k * 4,none⟩) hg).trans e0
   have Hq:Hid (∀ W,Below wr.heap.size wr W → W.cell? ⟨g,o + k * 4 + 1,none⟩ = some (.string e.nm) ∧ W.cell? ⟨g,o + k * 4 + 2,none⟩ = some (.slice pa e.ats.length ca) ∧ W.cell? ⟨g,o + k * 4 + 3,none⟩ = some (.string e.tx)):=Hid.mkT fun W hb=>by
    have hb':=hI.bel.trans (hb.mono hI.bel.size)
    exact ⟨(hb'.cell (p:=⟨g,_,none⟩) hg).trans e1,(hb'.cell (p:=⟨g,_,none⟩) hg).trans e2,(hb'.cell (p:=⟨g,_,none⟩) hg).trans e3⟩
   have HI:=Hid.mkT hI
   have HA:Hid (∀ W,Below w.heap.size w W → W.cell? ⟨g,o + k * 4 + 2,none⟩ = some (.slice pa e.ats.length ca)):=Hid.mkT fun W hb=>(hb.cell (p:=⟨g,_,none⟩) hg).trans e2
   have HyD:=Hid.mkT hyD
   have hdl:=hdb.1
   have hdh:=hdb.2
   generalize e.d = z at q0 hdl hdh
   have cN:=fun W=>(lnameX_any e.nm W).mono (R':=fun r w'=>∃ v,r = .returned v ∧ ((∃ t,v = .string t ∧ Hid (NmL t)) ∧ Below W.heap.size W w')) fun r w' ⟨j,h3,h1,h2⟩=>⟨_,h1,⟨_,rfl,Hid.mkT ⟨e.nm,j,h3,rfl⟩⟩,h2⟩
   have cV:=fun W=>(lvalueX_any e.tx hs2 W).mono (R':=fun r w'=>∃ v,r = .returned v ∧ ((∃ t,v = .string t ∧ Hid (VlL t)) ∧ Below W.heap.size W w')) fun r w' ⟨h1,h2⟩=>⟨_,h1,⟨_,rfl,Hid.mkT ⟨e.tx,rfl⟩⟩,h2⟩
   clear hI hyD e0 e1 e2 e3 hdb hr
   go_upto_if 27 with fail
   go_cut [5] from 28 to 30 (fun dv wx=>(∃ dd:Nat,dv = .int .i64 (dd:Int) ∧ dd ≤ 9223372036854775807) ∧ wx = wr)
   case first =>
    by_cases h1:z < 0
    ·go_wp2_with fail
     go_meet
     case rel=>exact ⟨⟨(-(z + 1)).toNat,congrArg (Value.int .i64) (by simp;omega),by omega⟩,rfl⟩
    ·go_wp2_with fail
     go_meet
     case rel=>exact ⟨⟨z.toNat,congrArg (Value.int .i64) (by omega),by omega⟩,rfl⟩
   obtain ⟨⟨dd,rfl,hdd⟩,rfl⟩:=hcut
   clear hdl hdh q0
   go_upto_if 40 with fail
   go_cut [6] from 41 to 41 (fun mv wx=>(∃ mm:Nat,mv = .int .i64 ((mm:Int) + 2) ∧ mm ≤ 14 ∧ (mm:Int) + 1 ≤ D) ∧ wx = wc)
   case first =>
    by_cases h1:16 < D + 1
    ·go_wp2_with fail
     go_meet
     case rel=>exact ⟨⟨14,rfl,by omega,by omega⟩,rfl⟩
    ·go_wp2_with fail
     go_meet
     case rel=>exact ⟨⟨(D - 1).toNat,congrArg (Value.int .i64) (by omega),by omega,by omega⟩,rfl⟩
   obtain ⟨⟨mm,rfl,hm14,hmD⟩,rfl⟩:=hcut
   have m1:¬ ((mm:Int) + 1 = 0):=by omega
   have m2:(((mm:Int) + 1) == 0) = false:=beq_eq_false_iff_ne.2 m1
   have m3:Int.tmod (dd:Int) ((mm:Int) + 1) = ((dd % (mm + 1):Nat):Int):=by
    rw [Int.tmod_eq_emod_of_nonneg (by omega)];rfl
   have m0:IntKind.i64.wrap ((mm:Int) + 2 - 1) = (mm:Int) + 1:=by rw [IntKind.wrap_i64];omega
   have m4:dd % (mm + 1) ≤ mm:=by have:=Nat.mod_lt dd (show mm + 1 > 0 by omega);omega
   generalize dd % (mm + 1) = rr at m3 m4
   have m5:IntKind.i64.wrap (2 + (rr:Int)) = 2 + (rr:Int):=by rw [IntKind.wrap_i64];omega
   have HS:Hid (∀ W,Below wc.heap.size wc W → Below wc.heap.size wc W ∧ W.cell? ⟨g,o + k * 4 + 1,none⟩ = some (.string e.nm) ∧ W.cell? ⟨g,o + k * 4 + 3,none⟩ = some (.string e.tx)):=Hid.mkT fun W hb=>⟨hb,(Hq.out W hb).1,(Hq.out W hb).2.2⟩
   go_upto_region 11 with fail
   go_cut [7] from 41 to 58 (fun xv wx=>∃ (X:Nat) (F:Nat → Rw) (x:Elx),xv = .pointer (some ⟨X,0,none⟩) ∧ MX wx w.heap.size (.slice (some ⟨gE,0,none⟩) (k + 1) cE) F ex X x ∧ x.e.d = 2 + (rr:Int) ∧ x.e.ats = [] ∧ MOk x.e ∧ Below wc.heap.size wc wx)
   case first =>
    refine wp_region_held_drew (S:=fun w'=>Below wc.heap.size wc w' ∧ w'.cell? ⟨g,o + k * 4 + 1,none⟩ = some (.string e.nm) ∧ w'.cell? ⟨g,o + k * 4 + 3,none⟩ = some (.string e.tx)) (by kernel_rfl) (HS.out _ (Below.refl _ wc).drew) (fun hHeld=>?_)
    refine tkH 0 rfl (by kernel_rfl) (fun _ _ _ h=>h) (by assumption) (by intro w hSw;(try dsimp only at hSw);go_simp <;> with_reducible rfl) ?_
    try simp only [pts]
    refine tkH 1 rfl (by kernel_rfl) (fun _ _ _ h=>h) (by assumption) (by intro w hSw;(try dsimp only at hSw);go_simp <;> with_reducible rfl) ?_
    try simp only [pts]
    refine tkH 2 rfl (by kernel_rfl) (fun _ _ _ h=>h) (by assumption) (by intro w hSw;(try dsimp only at hSw);go_simp <;> with_reducible rfl) ?_
    try simp only [pts]
    refine tkH 3 rfl (by kernel_rfl) (fun _ _ _ h=>h) (by assumption) (by intro w hSw;(try dsimp only at hSw);go_simp <;> with_reducible rfl) ?_
    try simp only [pts]
    refine tkH 4 rfl (by kernel_rfl) (fun _ _ _ h=>h) (by assumption) (by intro w hSw;(try dsimp only at hSw);go_simp <;> with_reducible rfl) ?_
    try simp only [pts]
    refine tkH 5 rfl (by kernel_rfl) (fun _ _ _ h=>h) (by assumption) (by intro w hSw;(try dsimp only at hSw);go_simp <;> with_reducible rfl) ?_
    try simp only [pts]
    refine tkH 6 rfl (by kernel_rfl) (fun _ _ _ h=>h) (by assumption) (by intro w hSw;(try dsimp only at hSw);go_simp <;> with_reducible rfl) ?_
    try simp only [pts]
    refine tkH 7 rfl (by kernel_rfl) (fun _ _ _ h=>h) (by assumption) (by intro w hSw;(try dsimp only at hSw);go_simp <;> with_reducible rfl) ?_
    try simp only [pts]
    refine tkH 8 rfl (by kernel_rfl) (fun _ _ _ h=>h) (by assumption) (by intro w hSw;(try dsimp only at hSw);go_simp <;> with_reducible rfl) ?_
    try simp only [pts]
    refine tkH 9 rfl (by kernel_rfl) (fun _ _ _ h=>h) (by assumption) (by intro w hSw;(try dsimp only at hSw);go_simp <;> with_reducible rfl) ?_
    try simp only [pts]
    refine tkH 11 rfl (by kernel_rfl) (fun _ _ _ h=>h) (by assumption) (by intro w hSw;(try dsimp only at hSw);go_simp <;> with_reducible rfl) ?_
    try simp only [pts]
    refine tkH 12 rfl (by kernel_rfl) (fun _ _ _ h=>h) (by assumption) (by intro w hSw;(try dsimp only at hSw);go_simp <;> with_reducible rfl) ?_
    try simp only [pts]
    refine tkH 13 rfl (by kernel_rfl) (fun _ _ _ h=>h) (by assumption) (by intro w hSw;(try dsimp only at hSw);go_simp <;> with_reducible rfl) ?_
    try simp only [pts]
    refine tkH 14 rfl (by kernel_rfl) (fun _ _ _ h=>h) (by assumption) (by intro w hSw;(try dsimp only at hSw);go_simp <;> with_reducible rfl) ?_
    try simp only [pts]
    refine tkH 15 rfl (by kernel_rfl) (fun _ _ _ h=>h) (by assumption) (by intro w hSw;(try dsimp only at hSw);go_simp <;> with_reducible rfl) ?_
    try simp only [pts]
    refine wpAnyH_ready (rs:=[10,18]) (by kernel_rfl) (by simp) (arH rfl (fun K hK=>?_) (arH rfl (fun K hK=>?_) .nil))
    ·refine xstep1 ?_ _ (.tmp 50) #[9] ?_ ent_name _ ?_ _ (cN _) ?_
     ·rfl
     ·rfl
     ·rfl
     rintro _ w1 ⟨⟨t1,rfl,hn1⟩,hb1⟩
     refine hK.out _ _ (HS.out _ (hHeld.1.trans (hb1.mono hHeld.1.size))) (fun hHeld=>?_)
     clear hK K
     try simp only [pts]
     refine wpAnyH_ready (rs:=[16,18]) (by kernel_rfl) (by simp) (arH rfl (fun K hK=>?_) (arH rfl (fun K hK=>?_) .nil))
     ·refine xstep1 ?_ _ (.tmp 56) #[9] ?_ ent_value _ ?_ _ (cV _) ?_
      ·rfl
      ·rfl
      ·rfl
      rintro _ w2 ⟨⟨t2,rfl,hv2⟩,hb2⟩
      have hw2:Below wc.heap.size wc w2:=hHeld.1.trans (hb2.mono hHeld.1.size)
      refine hK.out _ _ (HS.out _ (hHeld.1.trans (hb2.mono hHeld.1.size))) (fun hHeld=>?_)
      clear hK K
      try simp only [pts]
      refine tkH 17 rfl (by kernel_rfl) (fun _ _ _ h=>h) (by assumption) (by intro w hSw;(try dsimp only at hSw);go_simp <;> with_reducible rfl) ?_
      try simp only [pts]
      refine wpAnyH_ready (rs:=[18]) (by kernel_rfl) (by simp) (arH rfl (fun K hK=>?_) .nil)
      go_simp
      refine hK.out _ _ (HS.out _ (hHeld.1.alloc hHeld.1.size _)) (fun hHeld=>?_)
      clear hK K
      try simp only [pts]
      refine wpAnyH_ready (rs:=[19]) (by kernel_rfl) (by simp) (arH rfl (fun K hK=>?_) .nil)
      have hx:(w2.alloc (.cells #[.int .i64 0,.string ⟨#[]⟩,.slice none 0 0,.string ⟨#[]⟩,.int .i64 0] 32)).heap[w2.heap.size]? = some (.cells #[.int .i64 0,.string ⟨#[]⟩,.slice none 0 0,.string ⟨#[]⟩,.int .i64 0] 32):=theap_new w2 _
      have hXge:wc.heap.size ≤ w2.heap.size:=by have:=hHeld.1.size;rw [World.size_alloc] at this;have:=hb2.size;have:=hb1.size;show wc.heap.size ≤ w2.heap.size;exact Nat.le_trans hb1.size hb2.size
      have x0:(w2.alloc (.cells #[.int .i64 0,.string ⟨#[]⟩,.slice none 0 0,.string ⟨#[]⟩,.int .i64 0] 32)).cell? ⟨w2.heap.size,0,none⟩ = some (.int .i64 0):=by simp only [World.cell?,hx];rfl
      have y0:(w2.alloc (.cells #[.int .i64 0,.string ⟨#[]⟩,.slice none 0 0,.string ⟨#[]⟩,.int .i64 0] 32)).frozen? ⟨w2.heap.size,0,none⟩ = false:=by simp only [World.frozen?,hx];simp
      have x1:(w2.alloc (.cells #[.int .i64 0,.string ⟨#[]⟩,.slice none 0 0,.string ⟨#[]⟩,.int .i64 0] 32)).cell? ⟨w2.heap.size,1,none⟩ = some (.string ⟨#[]⟩):=by simp only [World.cell?,hx];rfl
      have y1:(w2.alloc (.cells #[.int .i64 0,.string ⟨#[]⟩,.slice none 0 0,.string ⟨#[]⟩,.int .i64 0] 32)).frozen? ⟨w2.heap.size,1,none⟩ = false:=by simp only [World.frozen?,hx];simp
      have x2:(w2.alloc (.cells #[.int .i64 0,.string ⟨#[]⟩,.slice none 0 0,.string ⟨#[]⟩,.int .i64 0] 32)).cell? ⟨w2.heap.size,2,none⟩ = some (.slice none 0 0):=by simp only [World.cell?,hx];rfl
      have y2:(w2.alloc (.cells #[.int .i64 0,.string ⟨#[]⟩,.slice none 0 0,.string ⟨#[]⟩,.int .i64 0] 32)).frozen? ⟨w2.heap.size,2,none⟩ = false:=by simp only [World.frozen?,hx];simp
      have x3:(w2.alloc (.cells #[.int .i64 0,.string ⟨#[]⟩,.slice none 0 0,.string ⟨#[]⟩,.int .i64 0] 32)).cell? ⟨w2.heap.size,3,none⟩ = some (.string ⟨#[]⟩):=by simp only [World.cell?,hx];rfl
      have y3:(w2.alloc (.cells #[.int .i64 0,.string ⟨#[]⟩,.slice none 0 0,.string ⟨#[]⟩,.int .i64 0] 32)).frozen? ⟨w2.heap.size,3,none⟩ = false:=by simp only [World.frozen?,hx];simp
      have x4:(w2.alloc (.cells #[.int .i64 0,.string ⟨#[]⟩,.slice none 0 0,.string ⟨#[]⟩,.int .i64 0] 32)).cell? ⟨w2.heap.size,4,none⟩ = some (.int .i64 0):=by simp only [World.cell?,hx];rfl
      have y4:(w2.alloc (.cells #[.int .i64 0,.string ⟨#[]⟩,.slice none 0 0,.string ⟨#[]⟩,.int .i64 0] 32)).frozen? ⟨w2.heap.size,4,none⟩ = false:=by simp only [World.frozen?,hx];simp
      go_simp
      refine hK.out _ _ (HS.out _ (hw2.alloc hw2.size _)) (fun hHeld=>?_)
      clear hK K
      try simp only [pts]
      refine wpAnyH_done (by kernel_rfl) ?_ _
      have hbx:=theap_new w2 (.cells #[.int .i64 (2 + (rr:Int)),.string t1,.slice none 0 0,.string t2,.int .i64 0] 32)
      have hMX:=HI.out.d.box hHeld.1 hXge HI.out.bel.size hbx
      go_wp2_with fail
      go_meet
      case rel=>exact ⟨_,_,_,rfl,hMX,rfl,rfl,MOk.new hn1.out hv2.out _ _,hHeld.1⟩
     ·go_simp
      refine hK.out _ _ (HS.out _ (hHeld.1.alloc hHeld.1.size _)) (fun hHeld=>?_)
      clear hK K
      try simp only [pts]
      refine wpAnyH_ready (rs:=[16]) (by kernel_rfl) (by simp) (arH rfl (fun K hK=>?_) .nil)
      refine xstep1 ?_ _ (.tmp 56) #[9] ?_ ent_value _ ?_ _ (cV _) ?_
      ·rfl
      ·rfl
      ·rfl
      rintro _ w2 ⟨⟨t2,rfl,hv2⟩,hb2⟩
      have hw2:Below wc.heap.size wc w2:=hHeld.1.trans (hb2.mono hHeld.1.size)
      refine hK.out _ _ (HS.out _ (hHeld.1.trans (hb2.mono hHeld.1.size))) (fun hHeld=>?_)
      clear hK K
      try simp only [pts]
      refine tkH 17 rfl (by kernel_rfl) (fun _ _ _ h=>h) (by assumption) (by intro w hSw;(try dsimp only at hSw);go_simp <;> with_reducible rfl) ?_
      try simp only [pts]
      refine wpAnyH_ready (rs:=[19]) (by kernel_rfl) (by simp) (arH rfl (fun K hK=>?_) .nil)
      have hx:w2.heap[w1.heap.size]? = some (.cells #[.int .i64 0,.string ⟨#[]⟩,.slice none 0 0,.string ⟨#[]⟩,.int .i64 0] 32):=(hb2.block _ (by rw [World.size_alloc];omega)).trans (theap_new w1 _)
      have hXge:wc.heap.size ≤ w1.heap.size:=hb1.size
      have x0:w2.cell? ⟨w1.heap.size,0,none⟩ = some (.int .i64 0):=by simp only [World.cell?,hx];rfl
      have y0:w2.frozen? ⟨w1.heap.size,0,none⟩ = false:=by simp only [World.frozen?,hx];simp
      have x1:w2.cell? ⟨w1.heap.size,1,none⟩ = some (.string ⟨#[]⟩):=by simp only [World.cell?,hx];rfl
      have y1:w2.frozen? ⟨w1.heap.size,1,none⟩ = false:=by simp only [World.frozen?,hx];simp
      have x2:w2.cell? ⟨w1.heap.size,2,none⟩ = some (.slice none 0 0):=by simp only [World.cell?,hx];rfl
      have y2:w2.frozen? ⟨w1.heap.size,2,none⟩ = false:=by simp only [World.frozen?,hx];simp
      have x3:w2.cell? ⟨w1.heap.size,3,none⟩ = some (.string ⟨#[]⟩):=by simp only [World.cell?,hx];rfl
      have y3:w2.frozen? ⟨w1.heap.size,3,none⟩ = false:=by simp only [World.frozen?,hx];simp
      have x4:w2.cell? ⟨w1.heap.size,4,none⟩ = some (.int .i64 0):=by simp only [World.cell?,hx];rfl
      have y4:w2.frozen? ⟨w1.heap.size,4,none⟩ = false:=by simp only [World.frozen?,hx];simp
      go_simp
      refine hK.out _ _ (HS.out _ (((((hHeld.1.setCell hXge _).setCell hXge _).setCell hXge _).setCell hXge _).setCell hXge _)) (fun hHeld=>?_)
      clear hK K
      try simp only [pts]
      refine wpAnyH_done (by kernel_rfl) ?_ _
      have hbx:=hset_at (o:=4) (hset_at (o:=3) (hset_at (o:=2) (hset_at (o:=1) (hset_at (o:=0) hx (.int .i64 (2 + (rr:Int)))) (.string t1)) (.slice none 0 0)) (.string t2)) (.int .i64 0)
      have hMX:=HI.out.d.box hHeld.1 hXge HI.out.bel.size hbx
      go_wp2_with fail
      go_meet
      case rel=>exact ⟨_,_,_,rfl,hMX,rfl,rfl,MOk.new hn1.out hv2.out _ _,hHeld.1⟩
    ·go_simp
     refine hK.out _ _ (HS.out _ (hHeld.1.alloc hHeld.1.size _)) (fun hHeld=>?_)
     clear hK K
     try simp only [pts]
     refine wpAnyH_ready (rs:=[10]) (by kernel_rfl) (by simp) (arH rfl (fun K hK=>?_) .nil)
     refine xstep1 ?_ _ (.tmp 50) #[9] ?_ ent_name _ ?_ _ (cN _) ?_
     ·rfl
     ·rfl
     ·rfl
     rintro _ w1 ⟨⟨t1,rfl,hn1⟩,hb1⟩
     refine hK.out _ _ (HS.out _ (hHeld.1.trans (hb1.mono hHeld.1.size))) (fun hHeld=>?_)
     clear hK K
     try simp only [pts]
     refine wpAnyH_ready (rs:=[16]) (by kernel_rfl) (by simp) (arH rfl (fun K hK=>?_) .nil)
     refine xstep1 ?_ _ (.tmp 56) #[9] ?_ ent_value _ ?_ _ (cV _) ?_
     ·rfl
     ·rfl
     ·rfl
     rintro _ w2 ⟨⟨t2,rfl,hv2⟩,hb2⟩
     have hw2:Below wc.heap.size wc w2:=hHeld.1.trans (hb2.mono hHeld.1.size)
     refine hK.out _ _ (HS.out _ (hHeld.1.trans (hb2.mono hHeld.1.size))) (fun hHeld=>?_)
     clear hK K
     try simp only [pts]
     refine tkH 17 rfl (by kernel_rfl) (fun _ _ _ h=>h) (by assumption) (by intro w hSw;(try dsimp only at hSw);go_simp <;> with_reducible rfl) ?_
     try simp only [pts]
     refine wpAnyH_ready (rs:=[19]) (by kernel_rfl) (by simp) (arH rfl (fun K hK=>?_) .nil)
     have hx:w2.heap[wc.heap.size]? = some (.cells #[.int .i64 0,.string ⟨#[]⟩,.slice none 0 0,.string ⟨#[]⟩,.int .i64 0] 32):=(hb2.block _ (Nat.lt_of_lt_of_le (by show wc.heap.size < (wc.alloc _).heap.size;rw [World.size_alloc];omega) hb1.size)).trans ((hb1.block _ (by show wc.heap.size < (wc.alloc _).heap.size;rw [World.size_alloc];omega)).trans (theap_new wc _))
     have hXge:wc.heap.size ≤ wc.heap.size:=Nat.le_refl _
     have x0:w2.cell? ⟨wc.heap.size,0,none⟩ = some (.int .i64 0):=by simp only [World.cell?,hx];rfl
     have y0:w2.frozen? ⟨wc.heap.size,0,none⟩ = false:=by simp only [World.frozen?,hx];simp
     have x1:w2.cell? ⟨wc.heap.size,1,none⟩ = some (.string ⟨#[]⟩):=by simp only [World.cell?,hx];rfl
     have y1:w2.frozen? ⟨wc.heap.size,1,none⟩ = false:=by simp only [World.frozen?,hx];simp
     have x2:w2.cell? ⟨wc.heap.size,2,none⟩ = some (.slice none 0 0):=by simp only [World.cell?,hx];rfl
     have y2:w2.frozen? ⟨wc.heap.size,2,none⟩ = false:=by simp only [World.frozen?,hx];simp
     have x3:w2.cell? ⟨wc.heap.size,3,none⟩ = some (.string ⟨#[]⟩):=by simp only [World.cell?,hx];rfl
     have y3:w2.frozen? ⟨wc.heap.size,3,none⟩ = false:=by simp only [World.frozen?,hx];simp
     have x4:w2.cell? ⟨wc.heap.size,4,none⟩ = some (.int .i64 0):=by simp only [World.cell?,hx];rfl
     have y4:w2.frozen? ⟨wc.heap.size,4,none⟩ = false:=by simp only [World.frozen?,hx];simp
     go_simp
     refine hK.out _ _ (HS.out _ (((((hHeld.1.setCell hXge _).setCell hXge _).setCell hXge _).setCell hXge _).setCell hXge _)) (fun hHeld=>?_)
     clear hK K
     try simp only [pts]
     refine wpAnyH_done (by kernel_rfl) ?_ _
     have hbx:=hset_at (o:=4) (hset_at (o:=3) (hset_at (o:=2) (hset_at (o:=1) (hset_at (o:=0) hx (.int .i64 (2 + (rr:Int)))) (.string t1)) (.slice none 0 0)) (.string t2)) (.int .i64 0)
     have hMX:=HI.out.d.box hHeld.1 hXge HI.out.bel.size hbx
     go_wp2_with fail
     go_meet
     case rel=>exact ⟨_,_,_,rfl,hMX,rfl,rfl,MOk.new hn1.out hv2.out _ _,hHeld.1⟩
   obtain ⟨X,F,x,rfl,hX,hxd,hxa,hmo,hbx⟩:=hcut
   have HBw:=Hid.mkT (HI.out.bel.trans (hbx.mono HI.out.bel.size))
   have hq0:x.e.ats.length = 0:=by rw [hxa];rfl
   clear cN cV HS m0 m1 m2 m3 m5 hxa hD hgE hbx Hq
   go_wp2_with fail
   go_loopw [8] (fun j wr=>∃ (q:Nat) (F:Nat → Rw) (x:Elx),q ≤ e.ats.length ∧ q ≤ 24 ∧ j = .int .i64 (q:Int) ∧ MX wr w.heap.size (.slice (some ⟨gE,0,none⟩) (k + 1) cE) F ex X x ∧ x.e.d = 2 + (rr:Int) ∧ x.e.ats.length = q ∧ Hid (MOk x.e) ∧ Below w.heap.size w wr) (fun j _=>24 - (RowKit.intOf j).toNat)
   case atStart=>exact ⟨0,F,x,Nat.zero_le _,Nat.zero_le _,rfl,hX,hxd,hq0,Hid.mkT hmo,HBw.out⟩
   case round =>
    clear hX hxd hq0 HBw hmo
    obtain ⟨q,F,x,hq,hq24,rfl,hX,hxd,hxq,hmo,hB⟩:=hrel
    have d2:=HA.out wr hB
    have hwr:=hB.size
    by_cases hql:q < e.ats.length ∧ q < 24
    ·obtain ⟨s,hs⟩:∃ s,e.ats[q]? = some s:=⟨e.ats[q],List.getElem?_eq_getElem hql.1⟩
     obtain ⟨ga,oa,rfl,hga,hcs⟩:=hS.c q s hs
     obtain ⟨px,cx,hxav⟩:∃ px cx,x.av = .slice px q cx:=by
      have:=hX.pf.own (1 + ex.length)
      rw [hX.fx] at this
      obtain ⟨p,c,e'⟩:=own_sl this
      exact ⟨p,c,by rw [← hxq];exact e'⟩
     have hXl:X < wr.heap.size:=lt_of_heap hX.b
     have hcX:wr.cell? ⟨X,2,none⟩ = some (.slice px q cx):=by
      simp only [World.cell?,hX.b,← hxav]
      rfl
     have HS2:Hid (∀ W,Below wr.heap.size wr W → W.cell? ⟨g,o + k * 4 + 2,none⟩ = some (.slice (some ⟨ga,oa,none⟩) e.ats.length ca) ∧ W.cell? ⟨ga,oa + q,none⟩ = some (.string s) ∧ W.cell? ⟨X,2,none⟩ = some (.slice px q cx)):=Hid.mkT fun W hb=>by
      have hb':=hB.trans (hb.mono hB.size)
      exact ⟨HA.out W hb',(hb'.cell (p:=⟨ga,_,none⟩) hga).trans hcs,(hb.cell (p:=⟨X,2,none⟩) hXl).trans hcX⟩
     have hX0:=hX.hX
     have HC:Hid (∀ (W:World) (v:Value),Below w.heap.size w (W.setCell ⟨X,2,none⟩ v) → W.cell? ⟨g,o + k * 4 + 2,none⟩ = some (.slice (some ⟨ga,oa,none⟩) e.ats.length ca) ∧ W.cell? ⟨ga,oa + q,none⟩ = some (.string s)):=Hid.mkT fun W v hb=>⟨(World.cell?_setCell_other W _ _ _ (fun e=>by injection e with e1;omega)).symm.trans (HA.out _ hb),(World.cell?_setCell_other W _ _ _ (fun e=>by injection e with e1;omega)).symm.trans ((hb.cell (p:=⟨ga,_,none⟩) hga).trans hcs)⟩
     have hL:Below wr.heap.size wr wr.drew:=(Below.refl _ wr).drew
     have u1:(q:Int) < e.ats.length:=by omega
     have u2:(q:Int) < 24:=by omega
     have n1:IntKind.i64.wrap (97 + (q:Int)) = 97 + (q:Int):=by rw [IntKind.wrap_i64];omega
     have n2:IntKind.u8.wrap (97 + (q:Int)) = 97 + (q:Int):=by rw [IntKind.wrap_u8];omega
     have HM:=Hid.mkT hX
     have HB:=Hid.mkT hB
     have cN:=fun W=>(lnameX_any s W).mono (R':=fun r w'=>∃ v,r = .returned v ∧ ((∃ t,v = .string t ∧ Hid (NmL t)) ∧ Below W.heap.size W w')) fun r w' ⟨j,h3,h1,h2⟩=>⟨_,h1,⟨_,rfl,Hid.mkT ⟨s,j,h3,rfl⟩⟩,h2⟩
     have cV:=fun W=>(lvalueX_any s (hs3 s (List.mem_of_getElem? hs)) W).mono (R':=fun r w'=>∃ v,r = .returned v ∧ ((∃ t,v = .string t ∧ Hid (VlL t)) ∧ Below W.heap.size W w')) fun r w' ⟨h1,h2⟩=>⟨_,h1,⟨_,rfl,Hid.mkT ⟨s,rfl⟩⟩,h2⟩
     clear hX hB hs hcs hS hs3
     go_wp2_with fail
     refine wp_region_F 30 (fun w'=>w'.cell? ⟨g,o + k * 4 + 2,none⟩ = some (.slice (some ⟨ga,oa,none⟩) e.ats.length ca) ∧ w'.cell? ⟨ga,oa + q,none⟩ = some (.string s) ∧ w'.cell? ⟨X,2,none⟩ = some (.slice px q cx)) (by kernel_rfl) (HS2.out _ (Below.refl _ wr).drew) (fun hHeld=>?_)
     refine tkF 0 rfl (by kernel_rfl) (fun _ _ _ h=>h) (by assumption) (by intro w hSw;(try dsimp only at hSw);go_simp <;> with_reducible rfl) ?_
     try simp only [pts]
     refine tkF 1 rfl (by kernel_rfl) (fun _ _ _ h=>h) (by assumption) (by intro w hSw;(try dsimp only at hSw);go_simp <;> with_reducible rfl) ?_
     try simp only [pts]
     refine tkF 2 rfl (by kernel_rfl) (fun _ _ _ h=>h) (by assumption) (by intro w hSw;(try dsimp only at hSw);go_simp <;> with_reducible rfl) ?_
     try simp only [pts]
     refine tkF 3 rfl (by kernel_rfl) (fun _ _ _ h=>h) (by assumption) (by intro w hSw;(try dsimp only at hSw);go_simp <;> with_reducible rfl) ?_
     try simp only [pts]
     refine tkF 4 rfl (by kernel_rfl) (fun _ _ _ h=>h) (by assumption) (by intro w hSw;(try dsimp only at hSw);go_simp <;> with_reducible rfl) ?_
     try simp only [pts]
     refine tkF 7 rfl (by kernel_rfl) (fun _ _ _ h=>h) (by assumption) (by intro w hSw;(try dsimp only at hSw);go_simp <;> with_reducible rfl) ?_
     try simp only [pts]
     refine tkF 8 rfl (by kernel_rfl) (fun _ _ _ h=>h) (by assumption) (by intro w hSw;(try dsimp only at hSw);go_simp <;> with_reducible rfl) ?_
     try simp only [pts]
     refine tkF 9 rfl (by kernel_rfl) (fun _ _ _ h=>h) (by assumption) (by intro w hSw;(try dsimp only at hSw);go_simp <;> with_reducible rfl) ?_
     try simp only [pts]
     refine tkF 10 rfl (by kernel_rfl) (fun _ _ _ h=>h) (by assumption) (by intro w hSw;(try dsimp only at hSw);go_simp <;> with_reducible rfl) ?_
     try simp only [pts]
     refine tkF 11 rfl (by kernel_rfl) (fun _ _ _ h=>h) (by assumption) (by intro w hSw;(try dsimp only at hSw);go_simp <;> with_reducible rfl) ?_
     try simp only [pts]
     refine tkF 12 rfl (by kernel_rfl) (fun _ _ _ h=>h) (by assumption) (by intro w hSw;(try dsimp only at hSw);go_simp <;> with_reducible rfl) ?_
     try simp only [pts]
     refine tkF 13 rfl (by kernel_rfl) (fun _ _ _ h=>h) (by assumption) (by intro w hSw;(try dsimp only at hSw);go_simp <;> with_reducible rfl) ?_
     try simp only [pts]
     refine tkF 14 rfl (by kernel_rfl) (fun _ _ _ h=>h) (by assumption) (by intro w hSw;(try dsimp only at hSw);go_simp <;> with_reducible rfl) ?_
     try simp only [pts]
     refine tkF 17 rfl (by kernel_rfl) (fun _ _ _ h=>h) (by assumption) (by intro w hSw;(try dsimp only at hSw);go_simp <;> with_reducible rfl) ?_
     try simp only [pts]
     refine tkF 18 rfl (by kernel_rfl) (fun _ _ _ h=>h) (by assumption) (by intro w hSw;(try dsimp only at hSw);go_simp <;> with_reducible rfl) ?_
     try simp only [pts]
     refine tkF 19 rfl (by kernel_rfl) (fun _ _ _ h=>h) (by assumption) (by intro w hSw;(try dsimp only at hSw);go_simp <;> with_reducible rfl) ?_
     try simp only [pts]
     refine tkF 20 rfl (by kernel_rfl) (fun _ _ _ h=>h) (by assumption) (by intro w hSw;(try dsimp only at hSw);go_simp <;> with_reducible rfl) ?_
     try simp only [pts]
     refine tkF 21 rfl (by kernel_rfl) (fun _ _ _ h=>h) (by assumption) (by intro w hSw;(try dsimp only at hSw);go_simp <;> with_reducible rfl) ?_
     try simp only [pts]
     refine tkF 22 rfl (by kernel_rfl) (fun _ _ _ h=>h) (by assumption) (by intro w hSw;(try dsimp only at hSw);go_simp <;> with_reducible rfl) ?_
     try simp only [pts]
     refine tkF 23 rfl (by kernel_rfl) (fun _ _ _ h=>h) (by assumption) (by intro w hSw;(try dsimp only at hSw);go_simp <;> with_reducible rfl) ?_
     try simp only [pts]
     refine tkF 24 rfl (by kernel_rfl) (fun _ _ _ h=>h) (by assumption) (by intro w hSw;(try dsimp only at hSw);go_simp <;> with_reducible rfl) ?_
     try simp only [pts]
     refine wpAnyF_ready (rs:=[5,15]) (by kernel_rfl) (by simp) (arF rfl (fun K hK=>?_) (arF rfl (fun K hK=>?_) .nil))
     ·have hL:=hL.alloc hL.size (.cells #[.int .u8 (97 + (q:Int))] 5)
      go_simp
      refine hK.out _ _ (HS2.out _ hL) (fun hHeld=>?_)
      clear hK K
      try simp only [pts]
      refine wpAnyF_ready (rs:=[6,15]) (by kernel_rfl) (by simp) (arF rfl (fun K hK=>?_) (arF rfl (fun K hK=>?_) .nil))
      ·have hG:((wr.alloc (.cells #[.int .u8 (97 + (q:Int))] 5)).drew).heap[wr.heap.size]? = some (.cells #[.int .u8 (97 + (q:Int))] 5):=theap_new wr _
       have hcv:=lit1_conv hG (show (97 + (q:Int)) = ((97 + q:Nat):Int) by omega)
       go_simp
       refine hK.out _ _ hHeld (fun hHeld=>?_)
       clear hK K
       try simp only [pts]
       refine wpAnyF_ready (rs:=[15]) (by kernel_rfl) (by simp) (arF rfl (fun K hK=>?_) .nil)
       refine xstep1 ?_ _ (.tmp 87) #[9] ?_ ent_name _ ?_ _ (cN _) ?_
       ·rfl
       ·rfl
       ·rfl
       rintro _ w1 ⟨⟨s1,rfl,hn1⟩,hb1⟩
       have hz1:=hn1.out.size
       have hcat:¬ 9223372036854775807 < (sOf [97 + q]).size + s1.size:=by rw [sOf_size];show ¬ 9223372036854775807 < 1 + s1.size;omega
       have hL:=hL.trans (hb1.mono hL.size)
       refine hK.out _ _ (HS2.out _ hL) (fun hHeld=>?_)
       clear hK K
       try simp only [pts]
       refine tkF 16 rfl (by kernel_rfl) (fun _ _ _ h=>h) (by assumption) (by intro w hSw;(try dsimp only at hSw);go_simp <;> with_reducible rfl) ?_
       try simp only [pts]
       refine wpAnyF_ready (rs:=[25]) (by kernel_rfl) (by simp) (arF rfl (fun K hK=>?_) .nil)
       refine xstep1 ?_ _ (.tmp 97) #[9] ?_ ent_value _ ?_ _ (cV _) ?_
       ·rfl
       ·rfl
       ·rfl
       rintro _ w2 ⟨⟨s2,rfl,hv2⟩,hb2⟩
       have hL:=hL.trans (hb2.mono hL.size)
       refine hK.out _ _ (HS2.out _ hL) (fun hHeld=>?_)
       clear hK K
       try simp only [pts]
       refine tkF 26 rfl (by kernel_rfl) (fun _ _ _ h=>h) (by assumption) (by intro w hSw;(try dsimp only at hSw);go_simp <;> with_reducible rfl) ?_
       try simp only [pts]
       refine wpAnyF_ready (rs:=[27]) (by kernel_rfl) (by simp) (arF rfl (fun K hK=>?_) .nil)
       obtain ⟨p3,c3,w3,run3,cx3,fx3,hb3,F3,h3⟩:=(HM.out.below hL).attr hxav hxq (by omega) (Nat.le_trans hwr hL.size) (sOf [97 + q] ++ s1) s2
       have hb3':=HB.out.trans ((hL.mono hwr).trans hb3)
       obtain ⟨hg3,hga3⟩:=HC.out _ _ hb3'
       replace h3:=Hid.mkT h3
       replace hb3':=Hid.mkT hb3'
       clear hb3
       go_simp
       refine hK.out _ _ (HS2.out _ (hL.alloc hL.size _)) (fun hHeld=>?_)
       clear hK K
       try simp only [pts]
       refine wpAnyF_ready (rs:=[28]) (by kernel_rfl) (by simp) (arF rfl (fun K hK=>?_) .nil)
       refine step_append_ex ?_ (.tmp 74) (.tmp 100) _ _ ?_ _ _ ?_ ?_ (fun a b=>a = _ ∧ b = w3) ⟨_,w3,run3,rfl,rfl⟩ ?_
       ·rfl
       ·rfl
       ·rfl
       ·rfl
       rintro _ _ ⟨rfl,rfl⟩
       refine hK.out _ _ ⟨hg3,hga3,cx3⟩ (fun hHeld=>?_)
       clear hK K
       try simp only [pts]
       refine tkF 29 rfl (by kernel_rfl) (fun _ _ _ h=>h) (by assumption) (by intro w hSw;(try dsimp only at hSw);go_simp <;> with_reducible rfl) ?_
       try simp only [pts]
       refine wpAnyF_ready (rs:=[30]) (by kernel_rfl) (by simp) (laF rfl (fun K hK=>?_) .nil)
       go_simp
       refine hK.out _ _ trivial (fun hHeld=>?_)
       clear hK K
       try simp only [pts]
       refine wpAnyF_done (by kernel_rfl) ?_ _
       go_wp2_with fail
       go_roundw
       case rel=>exact ⟨q + 1,F3,_,by omega,by omega,by go_num,h3.out,hxd,by rw [List.length_append,hxq];rfl,Hid.mkT (hmo.out.more hxq (by omega) hn1.out hv2.out),hb3'.out⟩
       case measure=>simp [RowKit.intOf];omega
      ·refine xstep1 ?_ _ (.tmp 87) #[9] ?_ ent_name _ ?_ _ (cN _) ?_
       ·rfl
       ·rfl
       ·rfl
       rintro _ w1 ⟨⟨s1,rfl,hn1⟩,hb1⟩
       have hz1:=hn1.out.size
       have hcat:¬ 9223372036854775807 < (sOf [97 + q]).size + s1.size:=by rw [sOf_size];show ¬ 9223372036854775807 < 1 + s1.size;omega
       have hL:=hL.trans (hb1.mono hL.size)
       refine hK.out _ _ (HS2.out _ hL) (fun hHeld=>?_)
       clear hK K
       try simp only [pts]
       refine wpAnyF_ready (rs:=[6,25]) (by kernel_rfl) (by simp) (arF rfl (fun K hK=>?_) (arF rfl (fun K hK=>?_) .nil))
       ·have hG:(w1).heap[wr.heap.size]? = some (.cells #[.int .u8 (97 + (q:Int))] 5):=(hb1.block _ (lt_of_heap (theap_new wr _))).trans (theap_new wr _)
        have hcv:=lit1_conv hG (show (97 + (q:Int)) = ((97 + q:Nat):Int) by omega)
        go_simp
        refine hK.out _ _ hHeld (fun hHeld=>?_)
        clear hK K
        try simp only [pts]
        refine tkF 16 rfl (by kernel_rfl) (fun _ _ _ h=>h) (by assumption) (by intro w hSw;(try dsimp only at hSw);go_simp <;> with_reducible rfl) ?_
        try simp only [pts]
        refine wpAnyF_ready (rs:=[25]) (by kernel_rfl) (by simp) (arF rfl (fun K hK=>?_) .nil)
        refine xstep1 ?_ _ (.tmp 97) #[9] ?_ ent_value _ ?_ _ (cV _) ?_
        ·rfl
        ·rfl
        ·rfl
        rintro _ w2 ⟨⟨s2,rfl,hv2⟩,hb2⟩
        have hL:=hL.trans (hb2.mono hL.size)
        refine hK.out _ _ (HS2.out _ hL) (fun hHeld=>?_)
        clear hK K
        try simp only [pts]
        refine tkF 26 rfl (by kernel_rfl) (fun _ _ _ h=>h) (by assumption) (by intro w hSw;(try dsimp only at hSw);go_simp <;> with_reducible rfl) ?_
        try simp only [pts]
        refine wpAnyF_ready (rs:=[27]) (by kernel_rfl) (by simp) (arF rfl (fun K hK=>?_) .nil)
        obtain ⟨p3,c3,w3,run3,cx3,fx3,hb3,F3,h3⟩:=(HM.out.below hL).attr hxav hxq (by omega) (Nat.le_trans hwr hL.size) (sOf [97 + q] ++ s1) s2
        have hb3':=HB.out.trans ((hL.mono hwr).trans hb3)
        obtain ⟨hg3,hga3⟩:=HC.out _ _ hb3'
        replace h3:=Hid.mkT h3
        replace hb3':=Hid.mkT hb3'
        clear hb3
        go_simp
        refine hK.out _ _ (HS2.out _ (hL.alloc hL.size _)) (fun hHeld=>?_)
        clear hK K
        try simp only [pts]
        refine wpAnyF_ready (rs:=[28]) (by kernel_rfl) (by simp) (arF rfl (fun K hK=>?_) .nil)
        refine step_append_ex ?_ (.tmp 74) (.tmp 100) _ _ ?_ _ _ ?_ ?_ (fun a b=>a = _ ∧ b = w3) ⟨_,w3,run3,rfl,rfl⟩ ?_
        ·rfl
        ·rfl
        ·rfl
        ·rfl
        rintro _ _ ⟨rfl,rfl⟩
        refine hK.out _ _ ⟨hg3,hga3,cx3⟩ (fun hHeld=>?_)
        clear hK K
        try simp only [pts]
        refine tkF 29 rfl (by kernel_rfl) (fun _ _ _ h=>h) (by assumption) (by intro w hSw;(try dsimp only at hSw);go_simp <;> with_reducible rfl) ?_
        try simp only [pts]
        refine wpAnyF_ready (rs:=[30]) (by kernel_rfl) (by simp) (laF rfl (fun K hK=>?_) .nil)
        go_simp
        refine hK.out _ _ trivial (fun hHeld=>?_)
        clear hK K
        try simp only [pts]
        refine wpAnyF_done (by kernel_rfl) ?_ _
        go_wp2_with fail
        go_roundw
        case rel=>exact ⟨q + 1,F3,_,by omega,by omega,by go_num,h3.out,hxd,by rw [List.length_append,hxq];rfl,Hid.mkT (hmo.out.more hxq (by omega) hn1.out hv2.out),hb3'.out⟩
        case measure=>simp [RowKit.intOf];omega
       ·refine xstep1 ?_ _ (.tmp 97) #[9] ?_ ent_value _ ?_ _ (cV _) ?_
        ·rfl
        ·rfl
        ·rfl
        rintro _ w2 ⟨⟨s2,rfl,hv2⟩,hb2⟩
        have hL:=hL.trans (hb2.mono hL.size)
        refine hK.out _ _ (HS2.out _ hL) (fun hHeld=>?_)
        clear hK K
        try simp only [pts]
        refine wpAnyF_ready (rs:=[6]) (by kernel_rfl) (by simp) (arF rfl (fun K hK=>?_) .nil)
        have hG:(w2).heap[wr.heap.size]? = some (.cells #[.int .u8 (97 + (q:Int))] 5):=(hb2.block _ (lt_of_heap ((hb1.block _ (lt_of_heap (theap_new wr _))).trans (theap_new wr _)))).trans ((hb1.block _ (lt_of_heap (theap_new wr _))).trans (theap_new wr _))
        have hcv:=lit1_conv hG (show (97 + (q:Int)) = ((97 + q:Nat):Int) by omega)
        go_simp
        refine hK.out _ _ hHeld (fun hHeld=>?_)
        clear hK K
        try simp only [pts]
        refine tkF 16 rfl (by kernel_rfl) (fun _ _ _ h=>h) (by assumption) (by intro w hSw;(try dsimp only at hSw);go_simp <;> with_reducible rfl) ?_
        try simp only [pts]
        refine tkF 26 rfl (by kernel_rfl) (fun _ _ _ h=>h) (by assumption) (by intro w hSw;(try dsimp only at hSw);go_simp <;> with_reducible rfl) ?_
        try simp only [pts]
        refine wpAnyF_ready (rs:=[27]) (by kernel_rfl) (by simp) (arF rfl (fun K hK=>?_) .nil)
        obtain ⟨p3,c3,w3,run3,cx3,fx3,hb3,F3,h3⟩:=(HM.out.below hL).attr hxav hxq (by omega) (Nat.le_trans hwr hL.size) (sOf [97 + q] ++ s1) s2
        have hb3':=HB.out.trans ((hL.mono hwr).trans hb3)
        obtain ⟨hg3,hga3⟩:=HC.out _ _ hb3'
        replace h3:=Hid.mkT h3
        replace hb3':=Hid.mkT hb3'
        clear hb3
        go_simp
        refine hK.out _ _ (HS2.out _ (hL.alloc hL.size _)) (fun hHeld=>?_)
        clear hK K
        try simp only [pts]
        refine wpAnyF_ready (rs:=[28]) (by kernel_rfl) (by simp) (arF rfl (fun K hK=>?_) .nil)
        refine step_append_ex ?_ (.tmp 74) (.tmp 100) _ _ ?_ _ _ ?_ ?_ (fun a b=>a = _ ∧ b = w3) ⟨_,w3,run3,rfl,rfl⟩ ?_
        ·rfl
        ·rfl
        ·rfl
        ·rfl
        rintro _ _ ⟨rfl,rfl⟩
        refine hK.out _ _ ⟨hg3,hga3,cx3⟩ (fun hHeld=>?_)
        clear hK K
        try simp only [pts]
        refine tkF 29 rfl (by kernel_rfl) (fun _ _ _ h=>h) (by assumption) (by intro w hSw;(try dsimp only at hSw);go_simp <;> with_reducible rfl) ?_
        try simp only [pts]
        refine wpAnyF_ready (rs:=[30]) (by kernel_rfl) (by simp) (laF rfl (fun K hK=>?_) .nil)
        go_simp
        refine hK.out _ _ trivial (fun hHeld=>?_)
        clear hK K
        try simp only [pts]
        refine wpAnyF_done (by kernel_rfl) ?_ _
        go_wp2_with fail
        go_roundw
        case rel=>exact ⟨q + 1,F3,_,by omega,by omega,by go_num,h3.out,hxd,by rw [List.length_append,hxq];rfl,Hid.mkT (hmo.out.more hxq (by omega) hn1.out hv2.out),hb3'.out⟩
        case measure=>simp [RowKit.intOf];omega
     ·refine xstep1 ?_ _ (.tmp 87) #[9] ?_ ent_name _ ?_ _ (cN _) ?_
      ·rfl
      ·rfl
      ·rfl
      rintro _ w1 ⟨⟨s1,rfl,hn1⟩,hb1⟩
      have hz1:=hn1.out.size
      have hcat:¬ 9223372036854775807 < (sOf [97 + q]).size + s1.size:=by rw [sOf_size];show ¬ 9223372036854775807 < 1 + s1.size;omega
      have hL:=hL.trans (hb1.mono hL.size)
      refine hK.out _ _ (HS2.out _ hL) (fun hHeld=>?_)
      clear hK K
      try simp only [pts]
      refine wpAnyF_ready (rs:=[5,25]) (by kernel_rfl) (by simp) (arF rfl (fun K hK=>?_) (arF rfl (fun K hK=>?_) .nil))
      ·have hL:=hL.alloc hL.size (.cells #[.int .u8 (97 + (q:Int))] 5)
       go_simp
       refine hK.out _ _ (HS2.out _ hL) (fun hHeld=>?_)
       clear hK K
       try simp only [pts]
       refine wpAnyF_ready (rs:=[6,25]) (by kernel_rfl) (by simp) (arF rfl (fun K hK=>?_) (arF rfl (fun K hK=>?_) .nil))
       ·have hG:((w1.alloc (.cells #[.int .u8 (97 + (q:Int))] 5))).heap[w1.heap.size]? = some (.cells #[.int .u8 (97 + (q:Int))] 5):=theap_new w1 _
        have hcv:=lit1_conv hG (show (97 + (q:Int)) = ((97 + q:Nat):Int) by omega)
        go_simp
        refine hK.out _ _ hHeld (fun hHeld=>?_)
        clear hK K
        try simp only [pts]
        refine tkF 16 rfl (by kernel_rfl) (fun _ _ _ h=>h) (by assumption) (by intro w hSw;(try dsimp only at hSw);go_simp <;> with_reducible rfl) ?_
        try simp only [pts]
        refine wpAnyF_ready (rs:=[25]) (by kernel_rfl) (by simp) (arF rfl (fun K hK=>?_) .nil)
        refine xstep1 ?_ _ (.tmp 97) #[9] ?_ ent_value _ ?_ _ (cV _) ?_
        ·rfl
        ·rfl
        ·rfl
        rintro _ w2 ⟨⟨s2,rfl,hv2⟩,hb2⟩
        have hL:=hL.trans (hb2.mono hL.size)
        refine hK.out _ _ (HS2.out _ hL) (fun hHeld=>?_)
        clear hK K
        try simp only [pts]
        refine tkF 26 rfl (by kernel_rfl) (fun _ _ _ h=>h) (by assumption) (by intro w hSw;(try dsimp only at hSw);go_simp <;> with_reducible rfl) ?_
        try simp only [pts]
        refine wpAnyF_ready (rs:=[27]) (by kernel_rfl) (by simp) (arF rfl (fun K hK=>?_) .nil)
        obtain ⟨p3,c3,w3,run3,cx3,fx3,hb3,F3,h3⟩:=(HM.out.below hL).attr hxav hxq (by omega) (Nat.le_trans hwr hL.size) (sOf [97 + q] ++ s1) s2
        have hb3':=HB.out.trans ((hL.mono hwr).trans hb3)
        obtain ⟨hg3,hga3⟩:=HC.out _ _ hb3'
        replace h3:=Hid.mkT h3
        replace hb3':=Hid.mkT hb3'
        clear hb3
        go_simp
        refine hK.out _ _ (HS2.out _ (hL.alloc hL.size _)) (fun hHeld=>?_)
        clear hK K
        try simp only [pts]
        refine wpAnyF_ready (rs:=[28]) (by kernel_rfl) (by simp) (arF rfl (fun K hK=>?_) .nil)
        refine step_append_ex ?_ (.tmp 74) (.tmp 100) _ _ ?_ _ _ ?_ ?_ (fun a b=>a = _ ∧ b = w3) ⟨_,w3,run3,rfl,rfl⟩ ?_
        ·rfl
        ·rfl
        ·rfl
        ·rfl
        rintro _ _ ⟨rfl,rfl⟩
        refine hK.out _ _ ⟨hg3,hga3,cx3⟩ (fun hHeld=>?_)
        clear hK K
        try simp only [pts]
        refine tkF 29 rfl (by kernel_rfl) (fun _ _ _ h=>h) (by assumption) (by intro w hSw;(try dsimp only at hSw);go_simp <;> with_reducible rfl) ?_
        try simp only [pts]
        refine wpAnyF_ready (rs:=[30]) (by kernel_rfl) (by simp) (laF rfl (fun K hK=>?_) .nil)
        go_simp
        refine hK.out _ _ trivial (fun hHeld=>?_)
        clear hK K
        try simp only [pts]
        refine wpAnyF_done (by kernel_rfl) ?_ _
        go_wp2_with fail
        go_roundw
        case rel=>exact ⟨q + 1,F3,_,by omega,by omega,by go_num,h3.out,hxd,by rw [List.length_append,hxq];rfl,Hid.mkT (hmo.out.more hxq (by omega) hn1.out hv2.out),hb3'.out⟩
        case measure=>simp [RowKit.intOf];omega
       ·refine xstep1 ?_ _ (.tmp 97) #[9] ?_ ent_value _ ?_ _ (cV _) ?_
        ·rfl
        ·rfl
        ·rfl
        rintro _ w2 ⟨⟨s2,rfl,hv2⟩,hb2⟩
        have hL:=hL.trans (hb2.mono hL.size)
        refine hK.out _ _ (HS2.out _ hL) (fun hHeld=>?_)
        clear hK K
        try simp only [pts]
        refine wpAnyF_ready (rs:=[6]) (by kernel_rfl) (by simp) (arF rfl (fun K hK=>?_) .nil)
        have hG:(w2).heap[w1.heap.size]? = some (.cells #[.int .u8 (97 + (q:Int))] 5):=(hb2.block _ (lt_of_heap (theap_new w1 _))).trans (theap_new w1 _)
        have hcv:=lit1_conv hG (show (97 + (q:Int)) = ((97 + q:Nat):Int) by omega)
        go_simp
        refine hK.out _ _ hHeld (fun hHeld=>?_)
        clear hK K
        try simp only [pts]
        refine tkF 16 rfl (by kernel_rfl) (fun _ _ _ h=>h) (by assumption) (by intro w hSw;(try dsimp only at hSw);go_simp <;> with_reducible rfl) ?_
        try simp only [pts]
        refine tkF 26 rfl (by kernel_rfl) (fun _ _ _ h=>h) (by assumption) (by intro w hSw;(try dsimp only at hSw);go_simp <;> with_reducible rfl) ?_
        try simp only [pts]
        refine wpAnyF_ready (rs:=[27]) (by kernel_rfl) (by simp) (arF rfl (fun K hK=>?_) .nil)
        obtain ⟨p3,c3,w3,run3,cx3,fx3,hb3,F3,h3⟩:=(HM.out.below hL).attr hxav hxq (by omega) (Nat.le_trans hwr hL.size) (sOf [97 + q] ++ s1) s2
        have hb3':=HB.out.trans ((hL.mono hwr).trans hb3)
        obtain ⟨hg3,hga3⟩:=HC.out _ _ hb3'
        replace h3:=Hid.mkT h3
        replace hb3':=Hid.mkT hb3'
        clear hb3
        go_simp
        refine hK.out _ _ (HS2.out _ (hL.alloc hL.size _)) (fun hHeld=>?_)
        clear hK K
        try simp only [pts]
        refine wpAnyF_ready (rs:=[28]) (by kernel_rfl) (by simp) (arF rfl (fun K hK=>?_) .nil)
        refine step_append_ex ?_ (.tmp 74) (.tmp 100) _ _ ?_ _ _ ?_ ?_ (fun a b=>a = _ ∧ b = w3) ⟨_,w3,run3,rfl,rfl⟩ ?_
        ·rfl
        ·rfl
        ·rfl
        ·rfl
        rintro _ _ ⟨rfl,rfl⟩
        refine hK.out _ _ ⟨hg3,hga3,cx3⟩ (fun hHeld=>?_)
        clear hK K
        try simp only [pts]
        refine tkF 29 rfl (by kernel_rfl) (fun _ _ _ h=>h) (by assumption) (by intro w hSw;(try dsimp only at hSw);go_simp <;> with_reducible rfl) ?_
        try simp only [pts]
        refine wpAnyF_ready (rs:=[30]) (by kernel_rfl) (by simp) (laF rfl (fun K hK=>?_) .nil)
        go_simp
        refine hK.out _ _ trivial (fun hHeld=>?_)
        clear hK K
        try simp only [pts]
        refine wpAnyF_done (by kernel_rfl) ?_ _
        go_wp2_with fail
        go_roundw
        case rel=>exact ⟨q + 1,F3,_,by omega,by omega,by go_num,h3.out,hxd,by rw [List.length_append,hxq];rfl,Hid.mkT (hmo.out.more hxq (by omega) hn1.out hv2.out),hb3'.out⟩
        case measure=>simp [RowKit.intOf];omega
      ·refine xstep1 ?_ _ (.tmp 97) #[9] ?_ ent_value _ ?_ _ (cV _) ?_
       ·rfl
       ·rfl
       ·rfl
       rintro _ w2 ⟨⟨s2,rfl,hv2⟩,hb2⟩
       have hL:=hL.trans (hb2.mono hL.size)
       refine hK.out _ _ (HS2.out _ hL) (fun hHeld=>?_)
       clear hK K
       try simp only [pts]
       refine wpAnyF_ready (rs:=[5]) (by kernel_rfl) (by simp) (arF rfl (fun K hK=>?_) .nil)
       have hL:=hL.alloc hL.size (.cells #[.int .u8 (97 + (q:Int))] 5)
       go_simp
       refine hK.out _ _ (HS2.out _ hL) (fun hHeld=>?_)
       clear hK K
       try simp only [pts]
       refine wpAnyF_ready (rs:=[6]) (by kernel_rfl) (by simp) (arF rfl (fun K hK=>?_) .nil)
       have hG:((w2.alloc (.cells #[.int .u8 (97 + (q:Int))] 5))).heap[w2.heap.size]? = some (.cells #[.int .u8 (97 + (q:Int))] 5):=theap_new w2 _
       have hcv:=lit1_conv hG (show (97 + (q:Int)) = ((97 + q:Nat):Int) by omega)
       go_simp
       refine hK.out _ _ hHeld (fun hHeld=>?_)
       clear hK K
       try simp only [pts]
       refine tkF 16 rfl (by kernel_rfl) (fun _ _ _ h=>h) (by assumption) (by intro w hSw;(try dsimp only at hSw);go_simp <;> with_reducible rfl) ?_
       try simp only [pts]
       refine tkF 26 rfl (by kernel_rfl) (fun _ _ _ h=>h) (by assumption) (by intro w hSw;(try dsimp only at hSw);go_simp <;> with_reducible rfl) ?_
       try simp only [pts]
       refine wpAnyF_ready (rs:=[27]) (by kernel_rfl) (by simp) (arF rfl (fun K hK=>?_) .nil)
       obtain ⟨p3,c3,w3,run3,cx3,fx3,hb3,F3,h3⟩:=(HM.out.below hL).attr hxav hxq (by omega) (Nat.le_trans hwr hL.size) (sOf [97 + q] ++ s1) s2
       have hb3':=HB.out.trans ((hL.mono hwr).trans hb3)
       obtain ⟨hg3,hga3⟩:=HC.out _ _ hb3'
       replace h3:=Hid.mkT h3
       replace hb3':=Hid.mkT hb3'
       clear hb3
       rw [World.size_alloc] at run3
       go_simp
       refine hK.out _ _ (HS2.out _ (hL.alloc hL.size _)) (fun hHeld=>?_)
       clear hK K
       try simp only [pts]
       refine wpAnyF_ready (rs:=[28]) (by kernel_rfl) (by simp) (arF rfl (fun K hK=>?_) .nil)
       refine step_append_ex ?_ (.tmp 74) (.tmp 100) _ _ ?_ _ _ ?_ ?_ (fun a b=>a = _ ∧ b = w3) ⟨_,w3,run3,rfl,rfl⟩ ?_
       ·rfl
       ·rfl
       ·rfl
       ·rfl
       rintro _ _ ⟨rfl,rfl⟩
       refine hK.out _ _ ⟨hg3,hga3,cx3⟩ (fun hHeld=>?_)
       clear hK K
       try simp only [pts]
       refine tkF 29 rfl (by kernel_rfl) (fun _ _ _ h=>h) (by assumption) (by intro w hSw;(try dsimp only at hSw);go_simp <;> with_reducible rfl) ?_
       try simp only [pts]
       refine wpAnyF_ready (rs:=[30]) (by kernel_rfl) (by simp) (laF rfl (fun K hK=>?_) .nil)
       go_simp
       refine hK.out _ _ trivial (fun hHeld=>?_)
       clear hK K
       try simp only [pts]
       refine wpAnyF_done (by kernel_rfl) ?_ _
       go_wp2_with fail
       go_roundw
       case rel=>exact ⟨q + 1,F3,_,by omega,by omega,by go_num,h3.out,hxd,by rw [List.length_append,hxq];rfl,Hid.mkT (hmo.out.more hxq (by omega) hn1.out hv2.out),hb3'.out⟩
       case measure=>simp [RowKit.intOf];omega
    ·have hd:=HI.out.d
     obtain ⟨p3,c3,w3,run3,hb3,F3,h3⟩:=hX.done HI.out.l (by omega) hwr hd.dp hd.d6 hy (by omega) (by rw [HyD.out];omega) (by omega)
     have hI3:MIx w w3 (.slice p3 (k + 1 + 1) c3) (k + 1) F3 (ex ++ [x]):=⟨h3,by rw [List.length_append,HI.out.l];rfl,hB.trans hb3,fun z hz=>by
      rcases List.mem_append.1 hz with hz | hz
      ·exact HI.out.mo z hz
      ·rw [List.mem_singleton] at hz;subst hz;exact hmo.out⟩
     have HI3:=Hid.mkT hI3
     obtain ⟨px,cx,hxav⟩:∃ px cx,x.av = .slice px q cx:=by
      have:=hX.pf.own (1 + ex.length)
      rw [hX.fx] at this
      obtain ⟨p,c,e'⟩:=own_sl this
      exact ⟨p,c,by rw [← hxq];exact e'⟩
     rw [hxav] at run3
     have x0:wr.cell? ⟨X,0,none⟩ = some (.int .i64 x.e.d):=by simp only [World.cell?,hX.b];rfl
     have x1:wr.cell? ⟨X,1,none⟩ = some (.string x.e.nm):=by simp only [World.cell?,hX.b];rfl
     have x2:wr.cell? ⟨X,2,none⟩ = some (.slice px q cx):=by simp only [World.cell?,hX.b,← hxav];rfl
     have x3:wr.cell? ⟨X,3,none⟩ = some (.string x.e.tx):=by simp only [World.cell?,hX.b];rfl
     have x4:wr.cell? ⟨X,4,none⟩ = some (.int .i64 x.e.p):=by simp only [World.cell?,hX.b];rfl
     clear hX hxd hxav hI3 h3 hb3 HyD hd HI hxq hB
     by_cases hq1:q < e.ats.length
     ·have u1:(q:Int) < e.ats.length:=by omega
      have u2:¬ (q:Int) < 24:=by omega
      go_wp2_with (at_builtin;refine (wpList_append_ex (by rfl) _ _ _ _ (by rfl) _ _ (by rfl) (by rfl) (fun a b=>a = _ ∧ b = w3) ⟨_,w3,run3,rfl,rfl⟩ ?_);rintro _ _ ⟨rfl,rfl⟩)
      go_roundw
      case rel=>exact ⟨k + 1,F3,_,by omega,by omega,by go_num,HI3.out⟩
      case measure=>simp [RowKit.intOf];omega
     ·have u1:¬ (q:Int) < e.ats.length:=by omega
      go_wp2_with (at_builtin;refine (wpList_append_ex (by rfl) _ _ _ _ (by rfl) _ _ (by rfl) (by rfl) (fun a b=>a = _ ∧ b = w3) ⟨_,w3,run3,rfl,rfl⟩ ?_);rintro _ _ ⟨rfl,rfl⟩)
      go_roundw
      case rel=>exact ⟨k + 1,F3,_,by omega,by omega,by go_num,HI3.out⟩
      case measure=>simp [RowKit.intOf];omega
  ·by_cases hk1:k < sd.length
   ·have u1:(k:Int) < sd.length:=by omega
    have u2:¬ (k:Int) < 60:=by omega
    go_wp2_with fail
    go_ret
    exact ⟨_,rfl,k,hk60,f,ex,hI⟩
   ·have u1:¬ (k:Int) < sd.length:=by omega
    go_wp2_with fail
    go_ret
    exact ⟨_,rfl,k,hk60,f,ex,hI⟩
end Go.Proofs.YtchfphakhmifmabGreatDoor

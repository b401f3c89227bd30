/- One more room in a row: place, gap, plain. -/
import Derived.Test.YtjdinlgbfpkodaaLLay
import Derived.BigRegion
import Derived.Deep.RegionLaw
import Derived.Maps.AppendAt
namespace Go.Proofs.Ytjdinlgbfpkodaa
open Go.ChangeShapes Go.WideShapes Go.ChangeAt Go.RowKit

theorem step_append_ex {P : Program} {w : World} {ops : Array Oper} {o : Oper} {a : Act} {K : Act → World → Prop} {Q : Exit → Act → World → Prop} {E : Prop} (hgd : o.guard = none) (s x : Operand) (t tx : TypeId)
    (ho : o.op = .call { callee := .builtin .append, args := #[s, x], argTypes := #[t, tx] }) (sv xv : Value) (hs : a.eval s = sv) (hx : a.eval x = xv) (Post : Value → World → Prop)
    (hrun : ∃ v w', (∀ ty, (Builtin.append_ #[t, tx] ty #[sv, xv]).run P w = .ok v w') ∧ Post v w')
    (h : ∀ v w', Post v w' → K (a.put o.dst v) w') : if Region.wanted o (yielded ops a.tmps) = true then Oper.wp P o a w K Q else E := by
  have hw : Region.wanted o (yielded ops a.tmps) = true := by simp [Region.wanted, hgd]
  rw [if_pos hw]
  obtain ⟨v, w', hr, hp⟩ := hrun
  unfold Oper.wp execOp
  simp only [ho, resolve, invoke, builtin, Sem.run_bind, Sem.run_pure, Result.andThen_ok, List.map_toArray, List.map_cons, List.map_nil, hs, hx, hr]
  exact h v w' hp
/-- An append onto a list of one's own. -/
theorem z_ap {W : World} {base : Nat} {v : Value} {al bl : List Int} {ad : Addr} {H : Nat} (cb : Nat) (own : ZOwn W base v al) (hB : ZRow W (some ad) H bl) (hl : al.length + bl.length ≤ 17592186044416) (hb : base ≤ W.heap.size) :
    ∃ v' w', (∀ ty, (Builtin.append_ #[24, 24] ty #[v, .slice (some ad) bl.length cb]).run Try.prog W = .ok v' w') ∧ (ZOwn w' base v' (al ++ bl) ∧ W.grownBy w' v.ownBlock ∧ (v'.ownBlock = v.ownBlock ∨ v'.ownBlock = some W.heap.size)) := by
  obtain ⟨i0, hi, hz, hs, hby⟩ := infoZ
  have hr := fun ty => run_append_own_at (P := Try.prog) W base 24 ty 3 i0 (.int .i64 0) 1 8 Try.underlying24 hi hz hs hby rfl (by decide) v al.length (al.map iV) own ad bl.length cb (bl.map iV) (by simp) hB.news (fun u hu => by obtain ⟨t, _, rfl⟩ := List.mem_map.1 hu; rfl) (by simp only [maxLen]; omega) (by omega) hb
  obtain ⟨v', w', h1, h2, h3, _, h4⟩ := hr 0
  refine ⟨v', w', fun ty => ?_, by unfold ZOwn; rw [List.length_append, List.map_append]; exact h2, h3, h4⟩
  have e : (Builtin.append_ #[24, 24] ty #[v, .slice (some ad) bl.length cb]) = (Builtin.append_ #[24, 24] 0 #[v, .slice (some ad) bl.length cb]) := rfl
  rw [e]
  exact h1
theorem r_ap {W : World} {base : Nat} {v : Value} {al bl : List Rm} {ad : Addr} {H : Nat} (cb : Nat) (own : ROwn W base v al) (hB : RmRow W (some ad) H bl) (hl : al.length + bl.length ≤ 8796093022208) (hb : base ≤ W.heap.size) :
    ∃ v' w', (∀ ty, (Builtin.append_ #[23, 23] ty #[v, .slice (some ad) bl.length cb]).run Try.prog W = .ok v' w') ∧ (ROwn w' base v' (al ++ bl) ∧ W.grownBy w' v.ownBlock ∧ (v'.ownBlock = v.ownBlock ∨ v'.ownBlock = some W.heap.size)) := by
  obtain ⟨i0, hi, hz, hs, hby⟩ := infoR
  have hr := fun ty => run_append_own_at (P := Try.prog) W base 23 ty 35 i0 (.agg #[.int .i64 0, .int .i64 0]) 2 16 Try.underlying23 hi hz hs hby rfl (by decide) v al.length (rmCells al) own ad bl.length cb (rmCells bl) (rmCells_length bl) hB.news (rmCells_one bl) (by simp only [maxLen]; omega) (by omega) hb
  obtain ⟨v', w', h1, h2, h3, _, h4⟩ := hr 0
  refine ⟨v', w', fun ty => ?_, by unfold ROwn; rw [List.length_append, rmCells_append]; exact h2, h3, h4⟩
  have e : (Builtin.append_ #[23, 23] ty #[v, .slice (some ad) bl.length cb]) = (Builtin.append_ #[23, 23] 0 #[v, .slice (some ad) bl.length cb]) := rfl
  rw [e]
  exact h1
theorem ZRow.lit {w : World} {g H : Nat} {t : Int} {ty : TypeId} (h : w.heap[g]? = some (.cells #[.int .i64 t] ty)) (hg : g < H) : ZRow w (some ⟨g, 0, none⟩) H [t] :=
  ⟨fun i u hu => by
    cases i with
    | zero => cases hu; exact ⟨g, 0, rfl, hg, by simp only [World.cell?, h]; rfl⟩
    | succ i => cases hu⟩
theorem RmRow.lit {w : World} {g H : Nat} {a b : Int} {ty : TypeId} (h : w.heap[g]? = some (.cells #[.int .i64 a, .int .i64 b] ty)) (hg : g < H) : RmRow w (some ⟨g, 0, none⟩) H [⟨a, b⟩] :=
  ⟨fun i u hu => by
    cases i with
    | zero => cases hu; exact ⟨g, 0, rfl, hg, by simp only [World.cell?, h]; rfl, by simp only [World.cell?, h]; rfl⟩
    | succ i => cases hu⟩
abbrev nilS : Value := .slice none 0 0
/-- What a row has been laid up to. -/
structure St where
  e : Int
  t : Int
  off : List Int
  tol : List Rm
def gapL (t u : Int) : List Rm := if t < u then [⟨u - t, t⟩] else []
def stp (k : Nat) (s : St) (x : Rm) : St :=
  if k = 0 then { s with e := layFrom x s.e + x.sz, off := s.off ++ [layFrom x s.e] }
  else if k = 1 then (if 0 < x.sz then { s with e := layFrom x s.e + x.sz, t := layFrom x s.e + x.sz, tol := s.tol ++ gapL s.t x.of } else { s with e := layFrom x s.e + x.sz })
  else { s with e := layFrom x s.e + x.sz, tol := s.tol ++ [⟨x.sz, if x.of = s.e then -1 else x.of⟩] }
/-- The row in memory: by place. -/
def SRow (k : Nat) (w : World) (R H : Nat) (s : St) (b : Int) : Prop := ∃ v, RC w R v ∧ v 0 = .int .i64 s.e ∧ v 1 = .int .i64 s.t ∧ v 2 = .int .i64 b ∧
  ((k = 0 ∧ ZOwn w H (v 3) s.off ∧ v 4 = nilS ∧ s.tol = []) ∨ (k ≠ 0 ∧ v 3 = nilS ∧ s.off = [] ∧ ROwn w H (v 4) s.tol))
def OnePost (k R H : Nat) (s : St) (b : Int) (x : Rm) (w : World) (r : Ending) (w' : World) : Prop :=
  r = .returned (.int .i64 (layErr x s.e)) ∧ Kp R H w w' ∧ (∃ v, RC w' R v) ∧ (layErr x s.e = 0 → SRow k w' R H (stp k s x) b)
theorem layFrom_b {x : Rm} {e : Int} (hx : x.ok) (he : 0 ≤ e ∧ e ≤ 65535) : i64ok (layFrom x e) := by
  obtain ⟨_, h1, h2⟩ := hx
  unfold layFrom i64ok
  split <;> omega
theorem Kp.mono {R H H' : Nat} {w w' : World} (h : Kp R H w w') (hH : H' ≤ H) : Kp R H' w w' := ⟨h.os, h.tape, h.output, h.size, fun k hk hn => h.block k (by omega) hn⟩
theorem Kp.cell {R H : Nat} {w w' : World} (h : Kp R H w w') {b o : Nat} (hb : b < H) (hn : b ≠ R) : w'.cell? ⟨b, o, none⟩ = w.cell? ⟨b, o, none⟩ := by simp only [World.cell?, h.block b hb hn]
theorem cell_lit {w : World} {g : Nat} {cs : Array Value} {ty : TypeId} (h : w.heap[g]? = some (.cells cs ty)) (o : Nat) : w.cell? ⟨g, o, none⟩ = cs[o]? := by simp only [World.cell?, h]; rfl
set_option maxHeartbeats 2000000 in
theorem place_any (R H : Nat) (s : St) (b : Int) (x : Rm) (w : World) (hS : SRow 0 w R H s b) (hR : R < H) (hH : H ≤ w.heap.size) (hl : s.off.length ≤ 8796093021952) (he : 0 ≤ s.e ∧ s.e ≤ 65535) (hx : x.ok) :
    Calls Try.prog 29 #[.pointer (some ⟨R, 0, none⟩), rmV x] w (OnePost 0 R H s b x w) := by
  obtain ⟨v, hC, h0, h1, h2, hk⟩ := hS
  rcases hk with ⟨_, hZ, h4, h5⟩ | ⟨k, _⟩
  rotate_left
  · exact absurd rfl k
  unfold OnePost
  have hB := bel1 w (.cells #[.int .i64 x.sz, .int .i64 x.of] 35)
  have cL := lay_any R x s.e v _ (hC.below hB) h0 he hx
  by_cases hE : layErr x s.e = 0
  · rw [hE] at cL ⊢
    have hok := layErr_ok hE
    have hF := layFrom_b hx he
    unfold layV at cL
    rw [if_pos hE] at cL
    have hst : stp 0 s x = { s with e := layFrom x s.e + x.sz, off := s.off ++ [layFrom x s.e] } := rfl
    rw [hst]
    clear hst hE
    generalize layFrom x s.e = F at cL hok hF ⊢
    go_enter Try.func29, Try.ntmps29
    go_wp2_with (go_at_call 40; refine cL.mono ?_; rintro _ w1 ⟨rfl, hK1, hC1⟩)
    have hs1 : w.heap.size < w1.heap.size := by have := hK1.size; rw [World.size_alloc] at this; omega
    have e3 := hC1.c 3 (by decide)
    have e0 := hC1.c 0 (by decide)
    have f3 := hC1.fz 3
    have e30 : upd v 0 (.int .i64 (F + x.sz)) 3 = v 3 := rfl
    have e00 : upd v 0 (.int .i64 (F + x.sz)) 0 = .int .i64 (F + x.sz) := rfl
    rw [e30] at e3
    rw [e00] at e0
    have hlt := hC.lt
    have x0 : w1.cell? ⟨w.heap.size, 0, none⟩ = some (.int .i64 x.sz) := (hK1.cell (by simp) (by omega)).trans (cell_lit (heap_new w _) 0)
    have hZ1 : ZOwn w1 H (v 3) s.off := own_same hZ fun k hk => by
      have := own_lt hZ hk
      exact (hK1.block k (by rw [World.size_alloc]; omega) (by omega)).trans (hB.block k this.2)
    obtain ⟨pp, cp, hv3, _⟩ := hZ.shape
    rw [hv3] at e3
    have hwr : IntKind.i64.wrap F = F := by rw [IntKind.wrap_i64]; obtain ⟨_, _⟩ := hF; omega
    have hB2 : Below w1.heap.size w1 (w1.alloc (.cells #[.int .i64 F] 3)).drew := (bel1 w1 _).drew
    obtain ⟨v2, w2, hrun, hown, hgr, hbk⟩ := z_ap (bl := [F]) (ad := ⟨w1.heap.size, 0, none⟩) (H := w1.heap.size + 1) 1 (own_below hZ1 hB2) (ZRow.lit (heap_new w1 _) (Nat.lt_succ_self _)) (by simp; omega) (by have := hB2.size; omega)
    have hbR : w2.heap[R]? = w1.heap[R]? := (hgr.block R (Nat.lt_of_lt_of_le hC1.lt hB2.size) (fun e => by have := own_lt hZ1 e.symm; omega)).trans (hB2.block R hC1.lt)
    have hC2 : RC w2 R _ := hC1.same hbR (Nat.le_trans hB2.size hgr.size)
    have hK2 : Kp R H w w2 := ⟨hgr.os.trans (hB2.os.trans (hK1.os.trans hB.os)), hgr.tape.trans (hB2.tape.trans (hK1.tape.trans hB.tape)), hgr.output.trans (hB2.output.trans (hK1.output.trans hB.output)), by have := hgr.size; have := hB2.size; omega, fun k hk hn => by
      refine (hgr.block k (by have := hB2.size; omega) (fun e => by have := own_lt hZ1 e.symm; omega)).trans ((hB2.block k (by omega)).trans ((hK1.block k (by rw [World.size_alloc]; omega) hn).trans (hB.block k (by omega))))⟩
    have q3 := hC2.c 3 (by decide)
    have g3 := hC2.fz 3
    obtain ⟨p2, c2, hv2, _⟩ := hown.shape
    rw [List.length_append, List.length_singleton] at hv2
    have HX : Hid (Kp R H w (w2.setCell ⟨R, 3, none⟩ v2) ∧ (∃ v, RC (w2.setCell ⟨R, 3, none⟩ v2) R v) ∧ SRow 0 (w2.setCell ⟨R, 3, none⟩ v2) R H { s with e := F + x.sz, off := s.off ++ [F] } b) := by
      refine ⟨hK2.trans (Kp.set R H 3 w2 v2), ⟨_, hC2.set 3 v2⟩, _, hC2.set 3 v2, rfl, h1, h2, .inl ⟨rfl, ?_, h4, h5⟩⟩
      refine own_same (v := v2) hown fun k hk => Below.heap_setCell _ _ _ _ (show k ≠ R from fun e => ?_)
      have := own_lt hown hk
      omega
    rw [hv3] at hrun
    have e3b : (w1.alloc (.cells #[.int .i64 F] 3)).cell? ⟨R, 3, none⟩ = some (.slice pp s.off.length cp) := ((bel1 w1 _).cell (p := ⟨R, 3, none⟩) hC1.lt).trans e3
    clear hK1 hC1 hC2 hK2 hgr hbk hown hZ hZ1 hbR hB hB2 cL
    subst hv2
    go_region_law (refine step_append_ex ?_ (.tmp 16) (.tmp 24) _ _ ?_ _ _ ?_ ?_ (fun a b => a = _ ∧ b = w2) ⟨_, w2, hrun, rfl, rfl⟩ ?_; rfl; rfl; rfl; rfl; rintro _ _ ⟨rfl, rfl⟩)
    all_goals
      go_wp2_with fail
      go_ret
      exact ⟨rfl, HX.out.1, HX.out.2.1, fun _ => HX.out.2.2⟩
  · rw [show layV v x s.e = v from if_neg hE] at cL
    go_enter Try.func29, Try.ntmps29
    go_wp2_with (go_at_call 40; refine cL.mono ?_; rintro _ w1 ⟨rfl, hK1, hC1⟩)
    go_ret
    exact ⟨rfl, (Kp.of (hB.mono hH)).trans (hK1.mono (by rw [World.size_alloc]; omega)), ⟨_, hC1⟩, fun h => absurd h hE⟩
end Go.Proofs.Ytjdinlgbfpkodaa

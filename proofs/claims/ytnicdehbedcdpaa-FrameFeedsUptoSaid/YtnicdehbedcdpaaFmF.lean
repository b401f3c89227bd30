/- cut. -/
import Derived.Test.YtnicdehbedcdpaaFmE
namespace Go.Proofs.Ytnicdehbedcdpaa
open Go.ChangeShapes Go.WideShapes Go.ChangeAt Go.RowKit

/-- An append whose run is known as something that there is. -/
theorem wpList_append_ex {P : Program} {w : World} {ops : Array Oper} {rest : List Oper} {o : Oper} {a : Act} {Q : Exit → Act → World → Prop} (hgd : o.guard = none) (s x : Operand) (t tx : TypeId)
    (ho : o.op = .call { callee := .builtin .append, args := #[s, x], argTypes := #[t, tx] }) (sv xv : Value) (hs : a.eval s = sv) (hx : a.eval x = xv) (Post : Value → World → Prop)
    (hrun : ∃ v w', (∀ ty, (Builtin.append_ #[t, tx] ty #[sv, xv]).run P w = .ok v w') ∧ Post v w')
    (h : ∀ v w', Post v w' → wpList P ops Q rest (a.put o.dst v) w') : wpList P ops Q (o :: rest) a w := by
  obtain ⟨v, w', hr, hp⟩ := hrun
  refine wpList_plain hgd fun _ hK => ?_
  unfold Oper.wp execOp
  simp only [ho, resolve, invoke, builtin, Sem.run_bind, Sem.run_pure, Result.andThen_ok, List.map_toArray, List.map_cons, List.map_nil, hs, hx, hr]
  exact hK _ _ (h v w' hp)
theorem Fr.kx {w w' : World} {B R : Nat} {v : Value} {L : List Nat} {fr : Nat} {lim er : Int} (h : Fr w B R v L fr lim er) (hs : w.heap.size ≤ w'.heap.size) (h1 : w'.heap[R]? = w.heap[R]?) (h2 : ∀ k, v.ownBlock = some k → w'.heap[k]? = w.heap[k]?) : Fr w' B R v L fr lim er :=
  ⟨(World.cell?_of_block h1).trans h.c0, (World.cell?_of_block h1).trans h.c1, (World.cell?_of_block h1).trans h.c2, (World.cell?_of_block h1).trans h.c3, fun o => (World.frozen?_of_block h1).trans (h.fz o), h.buf.same h2, h.le, h.ne, h.by_, h.len, h.lo, Nat.lt_of_lt_of_le h.lt hs⟩
/-- What cut answers. -/
def CutP (w : World) (B R : Nat) (v : Value) (L : List Nat) (fr : Nat) (lim er : Int) (c : List Pcl × Nat × Int) (e : Ending) (w' : World) : Prop :=
  ∃ pv, e = .returned (.tuple #[pv, .int .i64 c.2.2]) ∧ POwn w' w.heap.size pv c.1 ∧ Fr w' B R v L (fr + c.2.1) lim er ∧ Kx R none w w'
set_option maxHeartbeats 2000000 in
theorem cut_any {w : World} {B R : Nat} {v : Value} {L : List Nat} {fr : Nat} {lim er : Int} (hF : Fr w B R v L fr lim er) (hn : (cutZ lim (L.drop fr)).1.length ≤ 4398046511103) :
    Calls Try.prog 30 #[.pointer (some ⟨R, 0, none⟩)] w (CutP w B R v L fr lim er (cutZ lim (L.drop fr))) := by
  have hv : ∀ k, v.ownBlock = some k → k < w.heap.size := fun k hk => (hF.buf.lt hk).2
  have hRw := hF.lt
  have hle := hF.le
  have hlo := hF.lo
  generalize hC : cutZ lim (L.drop fr) = C at hn ⊢
  go_enter Try.func30, Try.ntmps30
  go_wp2_with fail
  go_loopw [4] (fun i wr => ∃ (ps : List Pcl) (f : Nat), fr ≤ f ∧ f ≤ L.length ∧ C = (ps ++ (cutZ lim (L.drop f)).1, (f - fr) + (cutZ lim (L.drop f)).2.1, (cutZ lim (L.drop f)).2.2) ∧ POwn wr w.heap.size i ps ∧ Fr wr B R v L f lim er ∧ Kx R none w wr) (fun _ wr => L.length - (intOf ((wr.cell? ⟨R, 1, none⟩).getD (.int .i64 0))).toNat)
  case atStart => exact ⟨[], fr, Nat.le_refl _, hle, by rw [hC]; simp, World.ownsRow_nil _ _ _ _, hF, Kx.refl _ _ _⟩
  case round =>
    obtain ⟨ps, f, h1, h2, hCe, hO, hG, hK⟩ := hrel
    have hc1 := hG.c1
    by_cases hk : lkZ lim (L.drop f) = 1
    · obtain ⟨k6, _, kl, _⟩ := lkZ_1 hk
      rw [List.length_drop] at kl
      rw [cutZ_yes hk, List.drop_drop] at hCe
      have hcl := look_any hG
      rw [hk] at hcl
      have hn2 : ps.length + 1 ≤ 4398046511103 := by rw [hCe] at hn; simp only [List.length_append, List.length_cons] at hn; omega
      clear hF
      go_wp2_with (first
        | (go_at_call 36; refine hcl.mono ?_; rintro _ w1 ⟨rfl, hb⟩; have hG := hG.below hb; have hO : POwn w1 w.heap.size _ ps := ownSame hO fun k hk => hb.block k (ownLt hO hk).2; have hK := hK.trans (Kx.of hb); clear hb)
        | (go_at_call 37; refine (parcel_any hG hk).mono ?_; rintro _ w2 ⟨rfl, hG, hK2⟩; have hO : POwn w2 w.heap.size _ ps := ownSame hO (fun k hk => hK2.block k (ownLt hO hk).2 (by have := (ownLt hO hk).1; omega) (by simp)); have hK := hK.trans hK2; clear hK2; generalize pcZ (L.drop f) = pc at *; have hap := p_ap (p := pc) hO (by omega) hK.size)
        | (at_builtin; go_must (refine (wpList_append_ex (by rfl) _ _ _ _ (by rfl) _ _ (by rfl) (by rfl) _ hap ?_)); rintro v' w' ⟨hO', hB', hk', hl'⟩))
      have hG2 := hG.kx hB'.size (hk' R (by have := hG.lt; omega) (fun e => by have := (ownLt hO e).1; omega)) (fun k hv' => hB'.block k (hv k hv'))
      have hc2 := hG2.c1
      refine ⟨⟨ps ++ [pc], f + lnZ (L.drop f), by omega, by omega, ?_, hO', hG2, ⟨hB'.os.trans hK.os, hB'.tape.trans hK.tape, hB'.output.trans hK.output, Nat.le_trans hK.size hB'.size, fun k hk1 hk2 hk3 => (hB'.block k hk1).trans (hK.block k hk1 hk2 hk3)⟩⟩, ?_⟩
      · rw [hCe]
        simp only [List.append_assoc, List.singleton_append, Prod.mk.injEq, true_and, and_true]
        omega
      · rw [hc1, hc2]
        simp only [Option.getD_some, intOf]
        omega
    · rw [cutZ_no hk] at hCe
      simp only [List.append_nil, Nat.add_zero] at hCe
      have hcl := look_any hG
      have hl : lkZ lim (L.drop f) = 0 ∨ lkZ lim (L.drop f) = 2 ∨ lkZ lim (L.drop f) = 3 := by
        unfold lkZ at hk ⊢
        split
        · exact .inl rfl
        split
        · exact .inr (.inl rfl)
        split
        · exact .inl rfl
        split
        · exact .inr (.inr rfl)
        split
        · exact .inl rfl
        · exact absurd (by rw [if_neg (by assumption), if_neg (by assumption), if_neg (by assumption), if_neg (by assumption), if_neg (by assumption)]) hk
      subst hCe
      have e4 : fr + (f - fr) = f := by omega
      rcases hl with hl | hl | hl
      all_goals
        rw [hl] at hcl ⊢
        clear hF hk hn
        go_wp2_with (go_at_call 36; refine hcl.mono ?_; rintro _ w1 ⟨rfl, hb⟩; have hG := hG.below hb; have hO : POwn w1 w.heap.size _ ps := ownSame hO fun k hk => hb.block k (ownLt hO hk).2; have hK := hK.trans (Kx.of hb); clear hb)
        go_ret2
        exact ⟨_, rfl, hO, by rw [e4]; exact hG, hK⟩
end Go.Proofs.Ytnicdehbedcdpaa

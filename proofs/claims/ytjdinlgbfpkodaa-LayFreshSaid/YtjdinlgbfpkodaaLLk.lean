/- The law LayLooks. -/
import Derived.Test.YtjdinlgbfpkodaaLRef3
import Derived.Test.YtjdinlgbfpkodaaLAt
namespace Go.Proofs.Ytjdinlgbfpkodaa
open Go.ChangeShapes Go.WideShapes Go.ChangeAt Go.RowKit Go.Shelf

theorem gapsR_len (b : Int) : ∀ (l : List Rm) (os : List Int) (t : Int), (gapsR l os t b).length ≤ l.length + 1
  | [], os, t => by have := gapL_length t b; simp only [gapsR]; omega
  | x :: r, [], t => by have := gapL_length t b; simp only [gapsR, List.length_cons]; omega
  | x :: r, o :: q, t => by
    simp only [gapsR, List.length_cons]
    split
    · have h1 := gapsR_len b r q (o + x.sz)
      have h2 := gapL_length t o
      rw [List.length_append]
      omega
    · have h1 := gapsR_len b r q t
      omega
theorem gapsZ_len (l : List Rm) (os : List Int) (b : Int) : (gapsZ l os b).1.length ≤ l.length + 1 := by
  rw [gapsZ_laid]
  cases laidE l os b with
  | none => exact Nat.zero_le _
  | some e => exact gapsR_len b l os 0
theorem plainZ_len (l : List Rm) (os : List Int) (b : Int) : (plainZ l os b).1.length ≤ l.length := by
  rw [plainZ_laid]
  cases laidE l os b with
  | none => exact Nat.zero_le _
  | some e => exact pl2_len l os 0
/-- All that the law looks at, wherever it has come to. -/
structure LkE (w W : World) (l : List Rm) (os : List Int) (GA PA : List Rm) (pp po pa pc pb pd : Option Addr) (b1 b2 : Nat) (vo va : Value) : Prop where
  l0 : SlR W pp W.heap.size l
  o0 : SlZ W po W.heap.size os
  a : SlR W pa W.heap.size GA
  c : SlR W pc W.heap.size PA
  b : SlR W pb W.heap.size GA
  d : SlR W pd W.heap.size PA
  own : RSp W b1 vo l
  at_ : ZSp W b2 va os
  bel : Below w.heap.size w W
theorem LkE.go {w W W' : World} {l : List Rm} {os : List Int} {GA PA : List Rm} {pp po pa pc pb pd : Option Addr} {b1 b2 : Nat} {vo va : Value} (h : LkE w W l os GA PA pp po pa pc pb pd b1 b2 vo va) (hb : Below W.heap.size W W') : LkE w W' l os GA PA pp po pa pc pb pd b1 b2 vo va :=
  ⟨h.l0.up hb, h.o0.up hb, h.a.up hb, h.c.up hb, h.b.up hb, h.d.up hb, h.own.below hb, h.at_.below hb, h.bel.trans (hb.mono h.bel.size)⟩
set_option maxRecDepth 100000 in
set_option maxHeartbeats 8000000 in
theorem LayLooks_any (l : List Rm) (os : List Int) (pp po : Option Addr) (cp co : Nat) (b p : Int) (w : World) (hr : SlR w pp w.heap.size l) (hro : SlZ w po w.heap.size os) (hl : l.length ≤ 8796093021952) (hm : os.length ≤ 17592186043904) (hx : ∀ x ∈ l, x.ok) (hxo : ∀ o ∈ os, i64ok o) (hp : i64ok p) :
    Calls Try.prog 7 #[.slice pp l.length cp, .slice po os.length co, .int .i64 b, .int .i64 p] w fun r w' => r = .returned (.bool true) ∧ Below w.heap.size w w' := by
  have hgl := gapsZ_len l os b
  have hpl := plainZ_len l os b
  have c1 := refGaps_any l os pp po cp co b w hr hro hl hx hxo
  have c2 := fun W h1 h2 => refPlain_any l os pp po cp co b W h1 h2 hl hx hxo
  have c5 := fun W pX pY cX cY h1 h2 => Gaps_any l os pX pY cX cY b W h1 h2 hl hm hx hxo
  have c6 := fun W pX pY cX cY h1 h2 => Plain_any l os pX pY cX cY b W h1 h2 hl hm hx hxo
  have c7 := fun W pX pY cX cY h1 h2 => At_any l os pX pY cX cY p W h1 h2 hl hm hx hxo hp
  have c8 := fun W h1 h2 => refAt_any l os pp po cp co p W h1 h2 hl hx hxo hp
  generalize gapsZ l os b = ZG at c1 c5 hgl
  generalize plainZ l os b = ZP at c2 c6 hpl
  generalize atR l os p 0 = ZA at c7 c8
  obtain ⟨GA, ge⟩ := ZG
  obtain ⟨PA, pn, pe⟩ := ZP
  dsimp only at c1 c2 c5 c6 hgl hpl
  have F1 : Hid (1 = 1) := ⟨rfl⟩
  go_enter Try.func7, Try.ntmps7
  go_wp2_with (first
    | (go_at_call 22; refine c1.mono ?_; rintro _ w1 ⟨v1, rfl, hO1, hB1⟩; obtain ⟨pa, ca, rfl, s1⟩ := hO1.sl; have d2 := c2 w1 (hr.up hB1) (hro.up hB1))
    | (go_at_call 23; refine d2.mono ?_; rintro _ w2 ⟨v2, rfl, hO2, hB2⟩; obtain ⟨pc, cc, rfl, s2⟩ := hO2.sl; have d3 := rooms_any l pp cp w2 ((hr.up hB1).up hB2) hl)
    | (go_at_call 11; refine d3.mono ?_; rintro _ w3 ⟨v3, rfl, hO3, hB3⟩; obtain ⟨px, cx, rfl, s3⟩ := hO3.sl; have d4 := ints_any os po co w3 (((hro.up hB1).up hB2).up hB3) hm)
    | (go_at_call 18; refine d4.mono ?_; rintro _ w4 ⟨v4, rfl, hO4, hB4⟩; obtain ⟨py, cy, rfl, s4⟩ := hO4.sl; have d5 := c5 w4 px py cx cy (s3.up hB4) s4)
    | (go_at_call 20; refine d5.mono ?_; rintro _ w5 ⟨v5, rfl, hO5, hB5⟩; obtain ⟨pb, cb, rfl, s5⟩ := hO5.sl; have d6 := c6 w5 px py cx cy ((s3.up hB4).up hB5) (s4.up hB5))
    | (go_at_call 19; refine d6.mono ?_; rintro _ w6 ⟨v6, rfl, hO6, hB6⟩; obtain ⟨pd, cd, rfl, s6⟩ := hO6.sl; have env : LkE w w6 l os GA PA pp po pa pc pb pd _ _ _ _ := ⟨(((((hr.up hB1).up hB2).up hB3).up hB4).up hB5).up hB6, (((((hro.up hB1).up hB2).up hB3).up hB4).up hB5).up hB6, ((((s1.up hB2).up hB3).up hB4).up hB5).up hB6, (((s2.up hB3).up hB4).up hB5).up hB6, s5.up hB6, s6, ((hO3.below hB4).below hB5).below hB6, (hO4.below hB5).below hB6, hB1.trans ((hB2.mono hB1.size).trans ((hB3.mono (Nat.le_trans hB1.size hB2.size)).trans ((hB4.mono (Nat.le_trans hB1.size (Nat.le_trans hB2.size hB3.size))).trans ((hB5.mono (Nat.le_trans hB1.size (Nat.le_trans hB2.size (Nat.le_trans hB3.size hB4.size)))).trans (hB6.mono (Nat.le_trans hB1.size (Nat.le_trans hB2.size (Nat.le_trans hB3.size (Nat.le_trans hB4.size hB5.size)))))))))⟩; clear hO1 hO2 hO3 hO4 hO5 hO6 s1 s2 s3 s4 s5 s6 hB1 hB2 hB3 hB4 hB5 hB6 d2 d3 d4 d5 d6)
    | (clear F1; go_at_call 24; refine (sameRooms_self GA pa pb ca cb _ env.a.row env.b.row (by omega)).mono ?_; rintro _ w' ⟨rfl, n', hn'⟩; have env := env.go (W' := w') (by rw [hn']; exact tdr (Below.refl _ _)); clear hn' n')
    | (go_at_call 24; refine (sameRooms_self PA pc pd cc cd _ env.c.row env.d.row (by omega)).mono ?_; rintro _ w' ⟨rfl, n', hn'⟩; have env := env.go (W' := w') (by rw [hn']; exact tdr (Below.refl _ _)); clear hn' n')
    | (go_at_call 12; refine (num_any _ _).mono ?_; rintro _ w' ⟨rfl, hw'⟩; replace hw' := hw'.symm; subst hw')
    | (go_at_call 17; refine (kept_any l os _ _ pp po cp co _ _ _ env.own env.at_ env.l0 env.o0 hl hm).mono ?_; rintro _ w' ⟨rfl, n', hn'⟩; have env := env.go (W' := w') (by rw [hn']; exact tdr (Below.refl _ _)); clear hn' n')
    | (go_at_call 21; obtain ⟨_, _, ex, sx⟩ := env.own.sl; cases ex; obtain ⟨_, _, ey, sy⟩ := env.at_.sl; cases ey; refine (c7 _ _ _ _ _ sx sy).mono ?_; clear sx sy; rintro _ w' ⟨rfl, n', hn'⟩; have env := env.go (W' := w') (by rw [hn']; exact tdr (Below.refl _ _)); clear hn' n')
    | (go_at_call 25; refine (c8 _ env.l0 env.o0).mono ?_; rintro _ w' ⟨rfl, hw'⟩; replace hw' := hw'.symm; subst hw'))
  go_ret
  exact ⟨rfl, env.bel⟩
end Go.Proofs.Ytjdinlgbfpkodaa

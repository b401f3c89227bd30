/- At, and the document's At. -/
import Derived.Test.YtjdinlgbfpkodaaLLaw
namespace Go.Proofs.Ytjdinlgbfpkodaa
open Go.ChangeShapes Go.WideShapes Go.ChangeAt Go.RowKit Go.Shelf

def holdsB (sz o p : Int) : Bool := decide (0 < sz ∧ o ≤ p ∧ p - o < sz)
def atR : List Rm → List Int → Int → Nat → Int
  | x :: r, o :: q, p, i => if holdsB x.sz o p then (i : Int) else atR r q p (i + 1)
  | _, _, _, _ => -1
theorem wrap_sub (p o : Int) (hp : i64ok p) (ho : i64ok o) (h : o ≤ p) : IntKind.u64.wrap (IntKind.u64.wrap p - IntKind.u64.wrap o) = p - o := by
  obtain ⟨h1, h2⟩ := hp
  obtain ⟨h3, h4⟩ := ho
  rw [IntKind.wrap_u64, IntKind.wrap_u64, IntKind.wrap_u64]
  omega
set_option maxHeartbeats 2000000 in
theorem holds_any (sz o p : Int) (hs : i64ok sz) (ho : i64ok o) (hp : i64ok p) (w : World) : Calls Try.prog 35 #[.int .i64 sz, .int .i64 o, .int .i64 p] w fun r w' => r = .returned (.bool (holdsB sz o p)) ∧ w' = w := by
  unfold holdsB
  by_cases h1 : 0 < sz
  · by_cases h2 : o ≤ p
    · have hw := wrap_sub p o hp ho h2
      have hz : IntKind.u64.wrap sz = sz := by rw [IntKind.wrap_u64]; obtain ⟨_, _⟩ := hs; omega
      have hd : decide (0 < sz ∧ o ≤ p ∧ p - o < sz) = decide (p - o < sz) := by simp [h1, h2]
      rw [hd]
      clear hd
      by_cases h3 : p - o < sz
      · rw [decide_eq_true h3]
        go_enter Try.func35, Try.ntmps35
        go_wp2_with fail
        go_ret
        exact ⟨rfl, rfl⟩
      · rw [decide_eq_false h3]
        go_enter Try.func35, Try.ntmps35
        go_wp2_with fail
        go_ret
        exact ⟨rfl, rfl⟩
    · have hd : decide (0 < sz ∧ o ≤ p ∧ p - o < sz) = false := by simp [h2]
      rw [hd]
      go_enter Try.func35, Try.ntmps35
      go_wp2_with fail
      go_ret
      exact ⟨rfl, rfl⟩
  · have hd : decide (0 < sz ∧ o ≤ p ∧ p - o < sz) = false := by simp [h1]
    rw [hd]
    go_enter Try.func35, Try.ntmps35
    go_wp2_with fail
    go_ret
    exact ⟨rfl, rfl⟩
theorem atR_step {l : List Rm} {os : List Int} {p : Int} {j : Nat} {x : Rm} {o : Int} (hx : l[j]? = some x) (ho : os[j]? = some o) : atR (l.drop j) (os.drop j) p j = if holdsB x.sz o p then (j : Int) else atR (l.drop (j + 1)) (os.drop (j + 1)) p (j + 1) := by
  rw [drop_at hx, drop_at ho]
  rfl
theorem atR_end {l : List Rm} {os : List Int} {p : Int} {j : Nat} (h : ¬ (j < l.length ∧ j < os.length)) : atR (l.drop j) (os.drop j) p j = -1 := by
  by_cases h1 : j < l.length
  · rw [show os.drop j = [] from List.drop_eq_nil_of_le (by omega)]
    cases l.drop j <;> rfl
  · rw [show l.drop j = [] from List.drop_eq_nil_of_le (by omega)]
    rfl
set_option maxRecDepth 100000 in
set_option maxHeartbeats 4000000 in
theorem At_any (l : List Rm) (os : List Int) (pp po : Option Addr) (cp co : Nat) (p : Int) (w : World) (hr : SlR w pp w.heap.size l) (hro : SlZ w po w.heap.size os) (hl : l.length ≤ 8796093021952) (hm : os.length ≤ 17592186043904) (hx : ∀ x ∈ l, x.ok) (hxo : ∀ o ∈ os, i64ok o) (hp : i64ok p) :
    Calls Try.prog 21 #[.slice pp l.length cp, .slice po os.length co, .int .i64 p] w fun r w' => r = .returned (.int .i64 (atR l os p 0)) ∧ ∃ n, w' = w.drewN n := by
  obtain ⟨Z, hZ⟩ : ∃ Z, atR l os p 0 = Z := ⟨_, rfl⟩
  rw [hZ]
  by_cases hlen : os.length < l.length
  · skip
    go_enter Try.func21, Try.ntmps21
    go_wp2_with fail
    go_loopw [13] (fun n wr => ∃ (j d : Nat), j ≤ os.length ∧ n = .int .i64 j ∧ Hid (wr = w.drewN d) ∧ Hid (atR (l.drop j) (os.drop j) p j = Z)) (fun n _ => os.length - (RowKit.intOf n).toNat)
    case atStart => exact ⟨0, 0, Nat.zero_le _, by go_num, ⟨rfl⟩, ⟨hZ⟩⟩
    case round =>
      obtain ⟨j, d, hj, rfl, hd, hat⟩ := hrel
      by_cases hlt : j < os.length
      · obtain ⟨x, hxj⟩ : ∃ x, l[j]? = some x := ⟨l[j]'(by omega), List.getElem?_eq_getElem (by omega)⟩
        obtain ⟨o, hoj⟩ : ∃ o, os[j]? = some o := ⟨os[j]'(by omega), List.getElem?_eq_getElem (by omega)⟩
        obtain ⟨g1, o1, rfl, _, q1, _⟩ := hr.row.c j x hxj
        obtain ⟨g2, o2, rfl, _, q2⟩ := hro.row.c j o hoj
        have r1 : wr.cell? ⟨g1, o1 + j * 2, none⟩ = some (.int .i64 x.sz) := by rw [hd.out]; exact q1
        have r2 : wr.cell? ⟨g2, o2 + j, none⟩ = some (.int .i64 o) := by rw [hd.out]; exact q2
        have hat2 := hat.out
        rw [atR_step hxj hoj] at hat2
        have ch := holds_any x.sz o p (hx x (List.mem_of_getElem? hxj)).1 (hxo o (List.mem_of_getElem? hoj)) hp
        have hlti : (j : Int) < l.length := by omega
        have hlto : (j : Int) < os.length := by omega
        have hltl : j < l.length := by omega
        have hlton : j < os.length := by omega
        clear q1 q2 hat hr hro hxj hoj hx hxo hZ
        cases hh : holdsB x.sz o p with
        | true =>
          rw [hh] at hat2 ch
          rw [if_pos rfl] at hat2
          subst hat2
          clear hh
          go_wp2_with fail
          go_quiet ((go_at_call 35; exact Calls.quiet_of_same (ch _)))
          go_wp2_with fail
          go_ret
          exact ⟨rfl, d + nq, by rw [hd.out]; exact drewN_add _ _ _⟩
        | false =>
          rw [hh] at hat2 ch
          rw [if_neg (by decide)] at hat2
          clear hh
          go_wp2_with fail
          go_quiet ((go_at_call 35; exact Calls.quiet_of_same (ch _)))
          go_wp2_with fail
          go_roundw
          case rel => exact ⟨j + 1, d + nq, by omega, by go_num, ⟨by rw [hd.out]; exact drewN_add _ _ _⟩, ⟨hat2⟩⟩
          case measure => simp [RowKit.intOf]; omega
      · obtain rfl : j = os.length := by omega
        have hat2 := hat.out
        rw [atR_end (by omega)] at hat2
        subst hat2
        clear hat hZ
        go_wp2_with fail
        go_ret
        exact ⟨rfl, d, hd.out⟩
  · skip
    go_enter Try.func21, Try.ntmps21
    go_wp2_with fail
    go_loopw [13] (fun n wr => ∃ (j d : Nat), j ≤ l.length ∧ n = .int .i64 j ∧ Hid (wr = w.drewN d) ∧ Hid (atR (l.drop j) (os.drop j) p j = Z)) (fun n _ => l.length - (RowKit.intOf n).toNat)
    case atStart => exact ⟨0, 0, Nat.zero_le _, by go_num, ⟨rfl⟩, ⟨hZ⟩⟩
    case round =>
      obtain ⟨j, d, hj, rfl, hd, hat⟩ := hrel
      by_cases hlt : j < l.length
      · obtain ⟨x, hxj⟩ : ∃ x, l[j]? = some x := ⟨l[j]'(by omega), List.getElem?_eq_getElem (by omega)⟩
        obtain ⟨o, hoj⟩ : ∃ o, os[j]? = some o := ⟨os[j]'(by omega), List.getElem?_eq_getElem (by omega)⟩
        obtain ⟨g1, o1, rfl, _, q1, _⟩ := hr.row.c j x hxj
        obtain ⟨g2, o2, rfl, _, q2⟩ := hro.row.c j o hoj
        have r1 : wr.cell? ⟨g1, o1 + j * 2, none⟩ = some (.int .i64 x.sz) := by rw [hd.out]; exact q1
        have r2 : wr.cell? ⟨g2, o2 + j, none⟩ = some (.int .i64 o) := by rw [hd.out]; exact q2
        have hat2 := hat.out
        rw [atR_step hxj hoj] at hat2
        have ch := holds_any x.sz o p (hx x (List.mem_of_getElem? hxj)).1 (hxo o (List.mem_of_getElem? hoj)) hp
        have hlti : (j : Int) < l.length := by omega
        have hlto : (j : Int) < os.length := by omega
        have hltl : j < l.length := by omega
        have hlton : j < os.length := by omega
        clear q1 q2 hat hr hro hxj hoj hx hxo hZ
        cases hh : holdsB x.sz o p with
        | true =>
          rw [hh] at hat2 ch
          rw [if_pos rfl] at hat2
          subst hat2
          clear hh
          go_wp2_with fail
          go_quiet ((go_at_call 35; exact Calls.quiet_of_same (ch _)))
          go_wp2_with fail
          go_ret
          exact ⟨rfl, d + nq, by rw [hd.out]; exact drewN_add _ _ _⟩
        | false =>
          rw [hh] at hat2 ch
          rw [if_neg (by decide)] at hat2
          clear hh
          go_wp2_with fail
          go_quiet ((go_at_call 35; exact Calls.quiet_of_same (ch _)))
          go_wp2_with fail
          go_roundw
          case rel => exact ⟨j + 1, d + nq, by omega, by go_num, ⟨by rw [hd.out]; exact drewN_add _ _ _⟩, ⟨hat2⟩⟩
          case measure => simp [RowKit.intOf]; omega
      · obtain rfl : j = l.length := by omega
        have hat2 := hat.out
        rw [atR_end (by omega)] at hat2
        subst hat2
        clear hat hZ
        go_wp2_with fail
        go_ret
        exact ⟨rfl, d, hd.out⟩
set_option maxRecDepth 100000 in
set_option maxHeartbeats 4000000 in
theorem refAt_any (l : List Rm) (os : List Int) (pp po : Option Addr) (cp co : Nat) (p : Int) (w : World) (hr : SlR w pp w.heap.size l) (hro : SlZ w po w.heap.size os) (hl : l.length ≤ 8796093021952) (hx : ∀ x ∈ l, x.ok) (hxo : ∀ o ∈ os, i64ok o) (hp : i64ok p) :
    Calls Try.prog 25 #[.slice pp l.length cp, .slice po os.length co, .int .i64 p] w fun r w' => r = .returned (.int .i64 (atR l os p 0)) ∧ w' = w := by
  obtain ⟨Z, hZ⟩ : ∃ Z, atR l os p 0 = Z := ⟨_, rfl⟩
  rw [hZ]
  go_enter Try.func25, Try.ntmps25
  go_wp2_with fail
  go_loopw [7] (fun n wr => ∃ (j : Nat), j ≤ l.length ∧ j ≤ os.length ∧ n = .int .i64 j ∧ Hid (wr = w) ∧ Hid (atR (l.drop j) (os.drop j) p j = Z)) (fun n _ => l.length - (RowKit.intOf n).toNat)
  case atStart => exact ⟨0, Nat.zero_le _, Nat.zero_le _, by go_num, ⟨rfl⟩, ⟨hZ⟩⟩
  case round =>
    obtain ⟨j, hj, hj2, rfl, hd, hat⟩ := hrel
    by_cases hlt : j < l.length ∧ j < os.length
    · obtain ⟨hltl, hlton⟩ := hlt
      obtain ⟨x, hxj⟩ : ∃ x, l[j]? = some x := ⟨l[j], List.getElem?_eq_getElem hltl⟩
      obtain ⟨o, hoj⟩ : ∃ o, os[j]? = some o := ⟨os[j], List.getElem?_eq_getElem hlton⟩
      obtain ⟨g1, o1, rfl, _, q1, _⟩ := hr.row.c j x hxj
      obtain ⟨g2, o2, rfl, _, q2⟩ := hro.row.c j o hoj
      have r1 : wr.cell? ⟨g1, o1 + j * 2, none⟩ = some (.int .i64 x.sz) := by rw [hd.out]; exact q1
      have r2 : wr.cell? ⟨g2, o2 + j, none⟩ = some (.int .i64 o) := by rw [hd.out]; exact q2
      have hat2 := hat.out
      rw [atR_step hxj hoj] at hat2
      obtain ⟨z1, z2⟩ := (hx x (List.mem_of_getElem? hxj)).1
      obtain ⟨z3, z4⟩ := hxo o (List.mem_of_getElem? hoj)
      obtain ⟨z5, z6⟩ := hp
      have hlti : (j : Int) < l.length := by omega
      have hlto : (j : Int) < os.length := by omega
      clear q1 q2 hat hr hro hxj hoj hx hxo hZ
      obtain ⟨sz, _⟩ := x
      dsimp only at r1 hat2 z1 z2
      unfold holdsB at hat2
      by_cases k1 : p < o
      · skip
        rw [if_neg (show ¬ decide (0 < sz ∧ o ≤ p ∧ p - o < sz) = true from fun h => by have := of_decide_eq_true h; omega)] at hat2
        go_wp2_with fail
        go_roundw
        case rel => exact ⟨j + 1, by omega, by omega, by go_num, hd, ⟨hat2⟩⟩
        case measure => simp [RowKit.intOf]; omega
      by_cases k2 : o < 0 ∧ 0 ≤ p
      · obtain ⟨k2, k2b⟩ := k2
        by_cases k3 : 0 < sz
        · by_cases k4 : p < sz + o
          · have hw : IntKind.i64.wrap (sz + o) = sz + o := by rw [IntKind.wrap_i64]; omega
            rw [if_pos (show decide (0 < sz ∧ o ≤ p ∧ p - o < sz) = true from decide_eq_true (by omega))] at hat2
            subst hat2
            go_wp2_with fail
            go_ret
            exact ⟨rfl, hd.out⟩
          · have hw : IntKind.i64.wrap (sz + o) = sz + o := by rw [IntKind.wrap_i64]; omega
            rw [if_neg (show ¬ decide (0 < sz ∧ o ≤ p ∧ p - o < sz) = true from fun h => by have := of_decide_eq_true h; omega)] at hat2
            go_wp2_with fail
            go_roundw
            case rel => exact ⟨j + 1, by omega, by omega, by go_num, hd, ⟨hat2⟩⟩
            case measure => simp [RowKit.intOf]; omega
        · skip
          rw [if_neg (show ¬ decide (0 < sz ∧ o ≤ p ∧ p - o < sz) = true from fun h => by have := of_decide_eq_true h; omega)] at hat2
          go_wp2_with fail
          go_roundw
          case rel => exact ⟨j + 1, by omega, by omega, by go_num, hd, ⟨hat2⟩⟩
          case measure => simp [RowKit.intOf]; omega
      · have hw : IntKind.i64.wrap (p - o) = p - o := by rw [IntKind.wrap_i64]; omega
        have hb1 : -9223372036854775808 ≤ p - o ∧ p - o ≤ 9223372036854775807 := by omega
        by_cases k5 : o < 0
        · have k6 : ¬ 0 ≤ p := by omega
          clear k2
          by_cases k4 : p - o < sz
          · skip
            rw [if_pos (show decide (0 < sz ∧ o ≤ p ∧ p - o < sz) = true from decide_eq_true (by omega))] at hat2
            subst hat2
            go_wp2_with fail
            go_ret
            exact ⟨rfl, hd.out⟩
          · skip
            rw [if_neg (show ¬ decide (0 < sz ∧ o ≤ p ∧ p - o < sz) = true from fun h => by have := of_decide_eq_true h; omega)] at hat2
            go_wp2_with fail
            go_roundw
            case rel => exact ⟨j + 1, by omega, by omega, by go_num, hd, ⟨hat2⟩⟩
            case measure => simp [RowKit.intOf]; omega
        · clear k2
          by_cases k4 : p - o < sz
          · skip
            rw [if_pos (show decide (0 < sz ∧ o ≤ p ∧ p - o < sz) = true from decide_eq_true (by omega))] at hat2
            subst hat2
            go_wp2_with fail
            go_ret
            exact ⟨rfl, hd.out⟩
          · skip
            rw [if_neg (show ¬ decide (0 < sz ∧ o ≤ p ∧ p - o < sz) = true from fun h => by have := of_decide_eq_true h; omega)] at hat2
            go_wp2_with fail
            go_roundw
            case rel => exact ⟨j + 1, by omega, by omega, by go_num, hd, ⟨hat2⟩⟩
            case measure => simp [RowKit.intOf]; omega
    · have hat2 := hat.out
      rw [atR_end hlt] at hat2
      subst hat2
      clear hat hZ hr hro hx hxo
      by_cases h1 : j < l.length
      · have h2 : ¬ j < os.length := fun h => hlt ⟨h1, h⟩
        have h3 : (j : Int) < l.length := by omega
        have h4 : ¬ (j : Int) < os.length := by omega
        go_wp2_with fail
        go_ret
        exact ⟨rfl, hd.out⟩
      · have h3 : ¬ (j : Int) < l.length := by omega
        go_wp2_with fail
        go_ret
        exact ⟨rfl, hd.out⟩
end Go.Proofs.Ytjdinlgbfpkodaa

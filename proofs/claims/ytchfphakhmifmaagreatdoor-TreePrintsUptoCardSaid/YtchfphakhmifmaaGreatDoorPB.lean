/- TPz, TPd, TAt. -/
import Derived.Test.YtchfphakhmifmaaGreatDoorPA
import Derived.Test.YtchfphakhmifmaaGreatDoorXTk
import Derived.Test.YtchfphakhmifmaaGreatDoorMB
import Derived.Test.YtchfphakhmifmaaGreatDoorXRd
namespace Go.Proofs.YtchfphakhmifmaaGreatDoor
open Go.Lib Go

/-- The elements, and which of them are open, the innermost one last. -/
structure PSt where
  op : List Nat
  es : List El
def hasA (l : List Att) (nm : ByteArray) : Bool := l.any fun a => decide (a.nm = nm)
/-- One piece: an error, or the elements behind it. -/
def takeT (bl : ByteArray → Bool) (s : PSt) (t : Tok) : Except Nat PSt :=
  if t.k = 0 then
    (if s.op = [] ∧ s.es ≠ [] then .error 53 else if s.op.length = 16 then .error 50 else if s.es.length = 20000 then .error 54
     else .ok ⟨s.op ++ [s.es.length], s.es ++ [⟨(s.op.length : Int) + 1, t.nm, [], ⟨#[]⟩, (t.p : Int)⟩]⟩)
  else if t.k = 1 then
    (match s.op.getLast? with
     | none => .ok s
     | some i => match s.es[i]? with
       | none => .ok s
       | some e => if hasA e.ats t.nm then .error 52 else if e.ats.length = 24 then .error 54 else .ok ⟨s.op, s.es.set i { e with ats := e.ats ++ [⟨t.nm, t.vl, (t.p : Int)⟩] }⟩)
  else if t.k = 3 then .ok ⟨s.op.dropLast, s.es⟩
  else if t.k = 4 then
    (match s.op.getLast? with
     | none => .error 51
     | some i => match s.es[i]? with
       | none => .error 51
       | some e => if e.nm = t.nm then .ok ⟨s.op.dropLast, s.es⟩ else .error 51)
  else if t.k = 5 then
    (match s.op.getLast? with
     | none => if bl t.vl then .ok s else .error 53
     | some i => match s.es[i]? with
       | none => .ok s
       | some e => .ok ⟨s.op, s.es.set i { e with tx := e.tx ++ t.vl }⟩)
  else .ok s
def takeL (bl : ByteArray → Bool) : List Tok → PSt → Except (Nat × Nat) PSt
  | [], s => .ok s
  | t :: r, s => match takeT bl s t with
    | .error e => .error (e, t.p)
    | .ok s' => takeL bl r s'
/-- What is open rises, and is there; no more than so many. -/
structure POk (s : PSt) : Prop where
  lt : ∀ i ∈ s.op, i < s.es.length
  up : s.op.Pairwise (· < ·)
  ol : s.op.length ≤ 16
  el : s.es.length ≤ 20000
  al : ∀ e ∈ s.es, e.ats.length ≤ 24
  ne : s.op ≠ [] → s.es ≠ []
theorem POk.nil : POk ⟨[], []⟩ := ⟨fun _ h => (by cases h), List.Pairwise.nil, by decide, by decide, fun _ h => (by cases h), fun h => absurd rfl h⟩
theorem getLast?_mem' {l : List Nat} {i : Nat} (h : l.getLast? = some i) : i ∈ l := List.mem_of_getLast? h
theorem set_len {α : Type} (l : List α) (i : Nat) (x : α) : (l.set i x).length = l.length := List.length_set
theorem takeT_ok {bl : ByteArray → Bool} {s s' : PSt} {t : Tok} (h : takeT bl s t = .ok s') (hs : POk s) : POk s' := by
  unfold takeT at h
  split at h
  · split at h
    · cases h
    · split at h
      · cases h
      · split at h
        · cases h
        · cases h
          rename_i h1 h2 h3
          have ho := hs.ol
          have he := hs.el
          refine ⟨fun i hi => ?_, ?_, ?_, ?_, fun e he' => ?_, fun _ => by simp⟩
          · rw [List.length_append, List.length_singleton]
            rcases List.mem_append.1 hi with hi | hi
            · have := hs.lt i hi; omega
            · rw [List.mem_singleton] at hi; omega
          · refine List.pairwise_append.2 ⟨hs.up, List.pairwise_singleton _ _, fun a ha b hb => ?_⟩
            rw [List.mem_singleton] at hb
            subst hb
            exact hs.lt a ha
          · rw [List.length_append, List.length_singleton]; omega
          · rw [List.length_append, List.length_singleton]; omega
          · rcases List.mem_append.1 he' with h | h
            · exact hs.al e h
            · rw [List.mem_singleton] at h; subst h; exact Nat.zero_le _
  · split at h
    · split at h
      · cases h; exact hs
      · rename_i i hi
        split at h
        · cases h; exact hs
        · rename_i e he
          split at h
          · cases h
          · split at h
            · cases h
            · cases h
              rename_i h5
              have ha := hs.al e (List.mem_of_getElem? he)
              refine ⟨fun j hj => by rw [set_len]; exact hs.lt j hj, hs.up, hs.ol, by rw [set_len]; exact hs.el, fun x hx => ?_, fun hn => ?_⟩
              · rcases List.mem_or_eq_of_mem_set hx with h | h
                · exact hs.al x h
                · subst h; show (e.ats ++ _).length ≤ 24; rw [List.length_append, List.length_singleton]; omega
              · have := hs.ne hn
                intro h0
                exact this (List.eq_nil_of_length_eq_zero (by rw [← set_len s.es i]; exact congrArg List.length h0))
    · split at h
      · cases h
        exact ⟨fun i hi => hs.lt i (List.dropLast_subset _ hi), hs.up.sublist (List.dropLast_sublist _), by rw [List.length_dropLast]; have := hs.ol; omega, hs.el, hs.al, fun hn => hs.ne (fun e => hn (by rw [e]; rfl))⟩
      · split at h
        · split at h
          · cases h
          · split at h
            · cases h
            · split at h
              · cases h
                exact ⟨fun i hi => hs.lt i (List.dropLast_subset _ hi), hs.up.sublist (List.dropLast_sublist _), by rw [List.length_dropLast]; have := hs.ol; omega, hs.el, hs.al, fun hn => hs.ne (fun e => hn (by rw [e]; rfl))⟩
              · cases h
        · split at h
          · split at h
            · split at h
              · cases h; exact hs
              · cases h
            · rename_i i hi
              split at h
              · cases h; exact hs
              · rename_i e he
                cases h
                refine ⟨fun j hj => by rw [set_len]; exact hs.lt j hj, hs.up, hs.ol, by rw [set_len]; exact hs.el, fun x hx => ?_, fun hn => ?_⟩
                · rcases List.mem_or_eq_of_mem_set hx with h | h
                  · exact hs.al x h
                  · subst h; exact hs.al e (List.mem_of_getElem? he)
                · have := hs.ne hn
                  intro h0
                  exact this (List.eq_nil_of_length_eq_zero (by rw [← set_len s.es i]; exact congrArg List.length h0))
          · cases h; exact hs
/-- The elements as the program has them in memory: what is open has no text yet. -/
def hideE (op : List Nat) (i : Nat) (e : El) : El := if i ∈ op then { e with tx := ⟨#[]⟩ } else e
def hide (op : List Nat) (es : List El) : List El := es.mapIdx (hideE op)
theorem hide_length (op : List Nat) (es : List El) : (hide op es).length = es.length := by simp [hide]
theorem hide_nil (es : List El) : hide [] es = es := by
  unfold hide
  apply List.ext_getElem?
  intro i
  rw [List.getElem?_mapIdx]
  cases es[i]? <;> simp [hideE]
theorem hide_get {op : List Nat} {es : List El} {i : Nat} {e : El} (h : es[i]? = some e) : (hide op es)[i]? = some (hideE op i e) := by
  unfold hide
  rw [List.getElem?_mapIdx, h]; rfl
theorem hide_push (op : List Nat) (es : List El) (x : El) (hx : x.tx = ⟨#[]⟩) : hide (op ++ [es.length]) (es ++ [x]) = hide op es ++ [x] := by
  apply List.ext_getElem?
  intro i
  unfold hide
  rw [List.getElem?_mapIdx]
  by_cases hi : i < es.length
  · rw [List.getElem?_append_left hi, List.getElem?_append_left (by simpa using hi), List.getElem?_mapIdx]
    congr 1
    funext e
    unfold hideE
    have : (i ∈ op ++ [es.length]) ↔ i ∈ op := by simp; omega
    simp only [this]
  · by_cases he : i = es.length
    · subst he
      simp [hideE, ← hx]
    · rw [List.getElem?_eq_none (by simp; omega), List.getElem?_eq_none (by simp; omega)]; rfl
theorem hide_att (op : List Nat) (es : List El) (i : Nat) (e : El) (h : es[i]? = some e) (l : List Att) : hide op (es.set i { e with ats := l }) = (hide op es).set i { hideE op i e with ats := l } := by
  apply List.ext_getElem?
  intro j
  unfold hide
  rw [List.getElem?_mapIdx]
  by_cases hj : j = i
  · subst hj
    have hl := (List.getElem?_eq_some_iff.1 h).1
    rw [List.getElem?_set_self hl, List.getElem?_set_self (by simpa using hl)]
    simp only [Option.map_some, hideE]
    split <;> rfl
  · rw [List.getElem?_set_ne (fun e => hj e.symm), List.getElem?_set_ne (fun e => hj e.symm), List.getElem?_mapIdx]
theorem hide_txt (op : List Nat) (es : List El) (i : Nat) (e : El) (h : es[i]? = some e) (hi : i ∈ op) (x : ByteArray) : hide op (es.set i { e with tx := x }) = hide op es := by
  apply List.ext_getElem?
  intro j
  unfold hide
  rw [List.getElem?_mapIdx, List.getElem?_mapIdx]
  by_cases hj : j = i
  · subst hj
    have hl := (List.getElem?_eq_some_iff.1 h).1
    rw [List.getElem?_set_self hl, h]
    simp only [Option.map_some, hideE, if_pos hi]
  · rw [List.getElem?_set_ne (fun e => hj e.symm)]
theorem last_split {op : List Nat} {i : Nat} (h : op.getLast? = some i) : op = op.dropLast ++ [i] := by
  obtain ⟨ys, rfl⟩ := List.getLast?_eq_some_iff.1 h
  simp
theorem hide_shut {op : List Nat} {es : List El} {i : Nat} {e : El} (hi : op.getLast? = some i) (h : es[i]? = some e) (hup : op.Pairwise (· < ·)) : hide op.dropLast es = (hide op es).set i e := by
  have hsp := last_split hi
  have hni : i ∉ op.dropLast := by
    rw [hsp] at hup
    intro hm
    have := (List.pairwise_append.1 hup).2.2 i hm i (List.mem_singleton.2 rfl)
    omega
  have hmem : ∀ j, j ≠ i → (j ∈ op ↔ j ∈ op.dropLast) := by
    intro j hj
    conv => lhs; rw [hsp]
    rw [List.mem_append, List.mem_singleton]
    exact ⟨fun h => h.resolve_right hj, .inl⟩
  apply List.ext_getElem?
  intro j
  unfold hide
  rw [List.getElem?_mapIdx]
  by_cases hj : j = i
  · subst hj
    have hl := (List.getElem?_eq_some_iff.1 h).1
    rw [List.getElem?_set_self (by simpa using hl), h]
    simp only [Option.map_some, hideE, if_neg hni]
  · rw [List.getElem?_set_ne (fun e => hj e.symm), List.getElem?_mapIdx]
    congr 1
    funext x
    unfold hideE
    simp only [hmem j hj]
end Go.Proofs.YtchfphakhmifmaaGreatDoor
namespace Go.Proofs.YtchfphakhmifmaaGreatDoor
open Go.Lib Go

/-- Characters of XML alone. -/
def chrB (s : ByteArray) : Bool := decide ((faultN xmlB s).1 = 0)
/-- What is wrong with attributes behind others. -/
def atE (l : List Att) : List Att → Nat
  | [] => 0
  | a :: r => if xmlNameB a.nm = true ∧ chrB a.vl = true then (if hasA l a.nm = true then 52 else atE (l ++ [a]) r) else 55
/-- What is wrong with the element of a number, behind one of a Depth. -/
def elE (n : Nat) (ahead : Int) (e : El) : Nat :=
  if e.d < 1 ∨ ahead + 1 < e.d then 55
  else if e.d = 1 ∧ 0 < n then 53
  else if 16 < e.d then 50
  else if 20000 ≤ n then 54
  else if xmlNameB e.nm = false then 55
  else if 24 < e.ats.length then 54
  else if atE [] e.ats ≠ 0 then atE [] e.ats
  else if chrB e.tx = true then 0 else 55
def chkF : List El → Nat → Int → Nat × Nat
  | [], _, _ => (0, 0)
  | e :: r, n, ahead => if elE n ahead e = 0 then chkF r (n + 1) e.d else (elE n ahead e, n)
def chkZ (es : List El) : Nat × Nat := if es = [] then (53, 0) else chkF es 0 0
end Go.Proofs.YtchfphakhmifmaaGreatDoor
namespace Go.Proofs.YtchfphakhmifmaaGreatDoor
open Go.ChangeShapes Go.WideShapes Go.ChangeAt Go.RowKit Go.Lib

theorem Hid.mkA {p : Prop} (h : p) : Hid p := h
theorem aheap_new (w : World) (o : Obj) : (w.alloc o).heap[w.heap.size]? = some o := by
  show (w.heap.push o)[w.heap.size]? = _
  rw [Array.getElem?_push, if_pos rfl]
abbrev attV (a : Att) : Value := .agg #[.string a.nm, .string a.vl, .int .i64 a.p]
theorem hasAttr1_any (a : Att) (B : Nat) (nm : ByteArray) (w : World) (hB : w.cell? ⟨B, 0, none⟩ = some (.string nm)) :
    Calls Tryz.prog 99 #[attV a, .pointer (some ⟨B, 0, none⟩)] w fun e w' => e = .returned (.bool (decide (a.nm = nm))) ∧ Below w.heap.size w w' := by
  have hb := bel1 w (.cells #[.string a.nm, .string a.vl, .int .i64 a.p] 58)
  have hB2 : (w.alloc (.cells #[.string a.nm, .string a.vl, .int .i64 a.p] 58)).cell? ⟨B, 0, none⟩ = some (.string nm) := (hb.cell (p := ⟨B, 0, none⟩) (World.block_lt_of_cell? w ⟨B, 0, none⟩ hB)).trans hB
  have hN : (w.alloc (.cells #[.string a.nm, .string a.vl, .int .i64 a.p] 58)).cell? ⟨w.heap.size, 0, none⟩ = some (.string a.nm) := by simp only [World.cell?, aheap_new]; rfl
  have HB := Hid.mkA hb
  by_cases h : a.nm = nm
  · subst h
    clear hb hB
    go_enter Tryz.func99, Tryz.ntmps99
    go_wp2_with fail
    go_ret
    exact ⟨by simp, HB.out⟩
  · have z := beq_ba h
    clear hb hB
    go_enter Tryz.func99, Tryz.ntmps99
    go_wp2_with fail
    go_ret
    exact ⟨by simp [h], HB.out⟩
theorem hasA_cons (a : Att) (l : List Att) (nm : ByteArray) : hasA (a :: l) nm = (decide (a.nm = nm) || hasA l nm) := rfl
theorem hasA_drop {l : List Att} {j : Nat} {a : Att} (h : l[j]? = some a) (nm : ByteArray) : hasA (l.drop j) nm = (decide (a.nm = nm) || hasA (l.drop (j + 1)) nm) := by
  have hl := (List.getElem?_eq_some_iff.1 h).1
  rw [List.drop_eq_getElem_cons hl, (List.getElem?_eq_some_iff.1 h).2, hasA_cons]
set_option maxHeartbeats 2000000 in
theorem indexFunc_any (l : List Att) (pa : Option Addr) (ca B : Nat) (nm : ByteArray) (w : World) (ha : ARow w pa w.heap.size l) (hB : w.cell? ⟨B, 0, none⟩ = some (.string nm)) (hl : l.length ≤ 1000000) :
    Calls Tryz.prog 117 #[.slice pa l.length ca, .func (.func 99) #[] #[.pointer (some ⟨B, 0, none⟩)]] w fun e w' => (∃ z : Int, e = .returned (.int .i64 z) ∧ (0 ≤ z ↔ hasA l nm = true) ∧ -1 ≤ z ∧ z ≤ 1000000) ∧ Below w.heap.size w w' := by
  have hBl := World.block_lt_of_cell? w ⟨B, 0, none⟩ hB
  go_enter Tryz.func117, Tryz.ntmps117
  go_wp2_with fail
  go_loopw [5, 8] (fun i5 n wr => ∃ j : Nat, j ≤ l.length ∧ n = .int .i64 j ∧ Below w.heap.size w wr ∧ hasA l nm = hasA (l.drop j) nm ∧ i5 = i5) (fun _ n _ => l.length - (RowKit.intOf n).toNat)
  case atStart => exact ⟨0, Nat.zero_le _, by go_num, Below.refl _ _, rfl, rfl⟩
  case round =>
    obtain ⟨j, hj, rfl, hb, hq, -⟩ := hrel
    by_cases hlt : j < l.length
    · obtain ⟨a, hx⟩ : ∃ a, l[j]? = some a := ⟨l[j], List.getElem?_eq_getElem hlt⟩
      obtain ⟨g, o, rfl, hg, q0, q1, q2⟩ := ha.c j a hx
      have r0 := (hb.cell (p := ⟨g, _, none⟩) hg).trans q0
      have r1 := (hb.cell (p := ⟨g, _, none⟩) hg).trans q1
      have r2 := (hb.cell (p := ⟨g, _, none⟩) hg).trans q2
      have c := hasAttr1_any a B nm wr ((hb.cell (p := ⟨B, 0, none⟩) hBl).trans hB)
      have hlti : (j : Int) < l.length := by omega
      have hd := hasA_drop hx nm
      have hd' := hd
      have hq0 := hq
      clear q0 q1 q2 ha hx hd hq
      by_cases hn : a.nm = nm
      · rw [decide_eq_true hn] at c
        have HX : Hid (0 ≤ (j : Int) ↔ hasA l nm = true) := Hid.mkA (by rw [hq0, hd', decide_eq_true hn]; simp)
        clear hn hq0 hd'
        go_wp2_with fail
        refine c.mono ?_
        rintro e w1 ⟨rfl, hb1⟩
        go_wp2_with fail
        go_ret
        exact ⟨⟨(j : Int), rfl, HX.out, by omega, by omega⟩, hb.trans (hb1.mono hb.size)⟩
      · rw [decide_eq_false hn] at c
        have HX : Hid (hasA l nm = hasA (l.drop (j + 1)) nm) := Hid.mkA (by rw [hq0, hd', decide_eq_false hn]; rfl)
        clear hn hq0 hd'
        go_wp2_with fail
        refine c.mono ?_
        rintro e w1 ⟨rfl, hb1⟩
        go_wp2_with fail
        go_roundw
        case rel => exact ⟨j + 1, by omega, by go_num, hb.trans (hb1.mono hb.size), HX.out, trivial⟩
        case measure => simp [RowKit.intOf]; omega
    · obtain rfl : j = l.length := by omega
      have HX : Hid (0 ≤ (-1 : Int) ↔ hasA l nm = true) := Hid.mkA (by rw [hq]; simp [hasA])
      clear hq
      go_wp2_with fail
      go_ret
      exact ⟨⟨-1, rfl, HX.out, by omega, by omega⟩, hb⟩
theorem containsFunc_any (l : List Att) (pa : Option Addr) (ca B : Nat) (nm : ByteArray) (w : World) (ha : ARow w pa w.heap.size l) (hB : w.cell? ⟨B, 0, none⟩ = some (.string nm)) (hl : l.length ≤ 1000000) :
    Calls Tryz.prog 98 #[.slice pa l.length ca, .func (.func 99) #[] #[.pointer (some ⟨B, 0, none⟩)]] w fun e w' => e = .returned (.bool (hasA l nm)) ∧ Below w.heap.size w w' := by
  have c := indexFunc_any l pa ca B nm w ha hB hl
  cases hh : hasA l nm
  · rw [hh] at c
    go_enter Tryz.func98, Tryz.ntmps98
    go_wp2_with (go_at_call 117; refine c.mono ?_; rintro _ w1 ⟨⟨z, rfl, hz, h1, h2⟩, hb⟩; have z0 : ¬ (0 ≤ z) := fun h => by have := hz.1 h; cases this)
    go_ret
    exact ⟨rfl, hb⟩
  · rw [hh] at c
    go_enter Tryz.func98, Tryz.ntmps98
    go_wp2_with (go_at_call 117; refine c.mono ?_; rintro _ w1 ⟨⟨z, rfl, hz, h1, h2⟩, hb⟩; have z0 : 0 ≤ z := hz.2 rfl)
    go_ret
    exact ⟨rfl, hb⟩
theorem hasAttr_any (l : List Att) (pa : Option Addr) (ca : Nat) (nm : ByteArray) (w : World) (ha : ARow w pa w.heap.size l) (hl : l.length ≤ 1000000) :
    Calls Tryz.prog 74 #[.slice pa l.length ca, .string nm] w fun e w' => e = .returned (.bool (hasA l nm)) ∧ Below w.heap.size w w' := by
  have hb := bel1 w (.cells #[.string nm] 9)
  have hN : (w.alloc (.cells #[.string nm] 9)).cell? ⟨w.heap.size, 0, none⟩ = some (.string nm) := by simp only [World.cell?, aheap_new]; rfl
  have c := containsFunc_any l pa ca w.heap.size nm _ ((ha.below hb).mono hb.size) hN hl
  have HB := Hid.mkA hb
  clear hb hN ha
  go_enter Tryz.func74, Tryz.ntmps74
  go_wp2_with (go_at_call 98; refine c.mono ?_; rintro _ w1 ⟨rfl, hb⟩)
  go_ret
  exact ⟨rfl, HB.out.trans (hb.mono HB.out.size)⟩
end Go.Proofs.YtchfphakhmifmaaGreatDoor

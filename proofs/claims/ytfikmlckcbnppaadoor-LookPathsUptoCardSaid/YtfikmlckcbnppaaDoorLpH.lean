/- WriteByte, WriteString, String, Itoa. -/
import Derived.Test.YtfikmlckcbnppaaDoorLpG
import Derived.Lib.AppendIntMem
namespace Go.Proofs.YtfikmlckcbnppaaDoor
open Go.ChangeShapes Go.WideShapes Go.ChangeAt Go.RowKit Go.Shelf Go.Maps

theorem infoByte : (Tryd.prog.info? 5).map (fun i => (i.zero, i.size, i.bytes)) = some (some (.int .u8 0), 1, 1) := by kernel_rfl
theorem neB5 : 68 ≠ 5 := by decide
theorem own_cells {W : World} {B n : Nat} {ty : TypeId} {z : Nat} {v : Value} {xs : List Value} (h : W.ownsRow B ty z v n xs) {k : Nat} (hk : v.ownBlock = some k) : ∃ cur, W.heap[k]? = some (.cells cur ty) := by
  rcases h.2 with ⟨e, -⟩ | ⟨g, cap, cur, e, -, hg, -⟩
  · rw [e] at hk; simp [Value.ownBlock] at hk
  · rw [e] at hk
    simp only [Value.ownBlock, Option.some.injEq] at hk
    subst hk
    exact ⟨cur, hg⟩
theorem wByte (B b : Nat) (bs : List Value) (c : Int) (w : World) (h : IsB B b bs w) (hlen : bs.length + 1 ≤ 140737488355328) (hBw : B ≤ w.heap.size) :
    Calls Tryd.prog 26 #[.pointer (some ⟨b, 0, none⟩), .int .u8 c] w fun e w' => e = .returned .nilIface ∧ (IsB B b (bs ++ [.int .u8 c]) w' ∧ Below B w w' ∧ Ok8 b w w') := by
  have cC := cc_any B b bs w h
  clear h
  have hC2 : Calls Tryd.prog 37 #[.pointer (some ⟨b, 0, none⟩)] w fun e w1 => e = .returned (.tuple #[]) ∧ ∃ pv cv, w1.cell? ⟨b, 1, none⟩ = some (.slice pv bs.length cv) ∧ Hid (∃ v' w', (∀ ty, (Builtin.append_ #[37, 37] ty #[.slice pv bs.length cv, .slice (some ⟨w1.heap.size, 0, none⟩) 1 1]).run Tryd.prog (w1.alloc (.cells #[.int .u8 c] 5)) = .ok v' w') ∧ ((∃ p' c', v' = .slice p' (bs.length + 1) c') ∧ w'.cell? ⟨b, 1, none⟩ = some (.slice pv bs.length cv) ∧ w'.frozen? ⟨b, 1, none⟩ = false ∧ Hid (IsB B b (bs ++ [.int .u8 c]) (w'.setCell ⟨b, 1, none⟩ v') ∧ Below B w (w'.setCell ⟨b, 1, none⟩ v') ∧ Ok8 b w (w'.setCell ⟨b, 1, none⟩ v')))) := cC.mono fun e w1 ⟨h1, ⟨hB, v, hbk, hown, hne⟩, hb1, hk1⟩ => by
    obtain ⟨pv, cv, rfl⟩ : ∃ pv cv, v = .slice pv bs.length cv := by
      rcases hown.2 with ⟨hv, h0⟩ | ⟨g, cap, cur, hv, -⟩
      · exact ⟨none, 0, by rw [hv, h0]⟩
      · exact ⟨_, _, hv⟩
    have hs1 := hb1.size
    have hlt := (Array.getElem?_eq_some_iff.1 hbk).1
    obtain ⟨v', w', q1, q2, q3, q4, q5⟩ := ap_genP (W := w1) Tryd.underlying37 infoByte rfl (by decide) hown [.int .u8 c] rfl (by simp [Value.oneCell']) (by omega) (by omega) (by omega)
    have hb2 : w'.heap[b]? = some (.cells #[.pointer (some ⟨b, 0, none⟩), .slice pv bs.length cv] 68) := (q4 b hlt hne).trans hbk
    obtain ⟨g, cc, hv⟩ := own_slic q2 (by omega)
    refine ⟨h1, pv, cv, cell_at hbk 1, ⟨v', w', q1, ⟨_, _, hv⟩, cell_at hb2 1, frz_at hb2, ⟨.inr ?_, (hb1.trans q3).setCell (p := ⟨b, 1, none⟩) hB _, fun k hk hkb hk8 => ?_⟩⟩⟩
    · exact Lib.BuilderAt.put (T := 68) (e := 5) hB hb2 (bs' := bs ++ [.int .u8 c]) (by simpa using q2) neB5
    · refine (set_off hkb).trans ((q4 k (by omega) fun e => ?_).trans (hk1 k hkb))
      obtain ⟨cur, hc⟩ := own_cells hown e
      exact hk8 cur (by rw [← hk1 k hkb]; exact hc)
  clear cC
  go_enter Tryd.func26, Tryd.ntmps26
  go_wp2_with (first
    | (go_at_call 37; refine hC2.mono ?_; rintro _ w1 ⟨rfl, pv, cv, c1, hap⟩)
    | (at_builtin; go_must (refine (ap_step (by rfl) _ _ _ _ (by rfl) _ _ (by rfl) (by rfl) _ hap.out ?_)); rintro v8 w8 ⟨⟨p8, c8, rfl⟩, k1, k2, hF⟩))
  go_ret
  exact ⟨rfl, hF.out⟩
theorem wString (B b : Nat) (bs : List Value) (s : ByteArray) (w : World) (h : IsB B b bs w) (hlen : bs.length + s.size ≤ 140737488355328) (hBw : B ≤ w.heap.size) :
    Calls Tryd.prog 27 #[.pointer (some ⟨b, 0, none⟩), .string s] w fun e w' => e = .returned (.tuple #[.int .i64 (s.size : Int), .nilIface]) ∧ (IsB B b (bs ++ Lib.strCells s) w' ∧ Below B w w' ∧ Ok8 b w w') := by
  have cC := cc_any B b bs w h
  clear h
  obtain ⟨i0, hi, hz0⟩ := Option.map_eq_some_iff.1 infoByte
  simp only [Prod.mk.injEq] at hz0
  go_enter Tryd.func27, Tryd.ntmps27
  go_wp2_with (go_at_call 37; refine cC.mono ?_)
  rintro _ w1 ⟨rfl, ⟨hB, v, hbk, hown, hne⟩, hb1, hk1⟩
  have hs1 := hb1.size
  replace hk1 : Hid _ := ⟨hk1⟩
  have c0 : w1.cell? ⟨b, 0, none⟩ = some (.pointer (some ⟨b, 0, none⟩)) := cell_at hbk 0
  have c1 : w1.cell? ⟨b, 1, none⟩ = some v := cell_at hbk 1
  obtain ⟨pv, cv, rfl⟩ : ∃ pv cv, v = .slice pv bs.length cv := by
    rcases hown.2 with ⟨hv, h0⟩ | ⟨g, cap, cur, hv, -⟩
    · exact ⟨none, 0, by rw [hv, h0]⟩
    · exact ⟨_, _, hv⟩
  go_wp2_with (at_builtin; refine Lib.wpList_append_own_string _ rfl _ _ 37 9 rfl B 5 i0 Tryd.underlying37 Tryd.underlying9 hi hz0.1 hz0.2.1 hz0.2.2 _ _ _ rfl hown s rfl ?c3 ?c4 ?c5 ?_)
  case c3 => unfold maxLen; omega
  case c4 => omega
  case c5 => have := hb1.size; omega
  intro v' w2 hown' hgrow _
  have hlt := (Array.getElem?_eq_some_iff.1 hbk).1
  have hb2 : w2.heap[b]? = some (.cells #[.pointer (some ⟨b, 0, none⟩), .slice pv bs.length cv] 68) := (hgrow.block b hlt (fun e => hne e.symm)).trans hbk
  have d1 : w2.cell? ⟨b, 1, none⟩ = some (.slice pv bs.length cv) := cell_at hb2 1
  have f1 : w2.frozen? ⟨b, 1, none⟩ = false := frz_at hb2
  obtain ⟨ao, n', cap, rfl⟩ : ∃ ao n' cap, v' = .slice ao n' cap := by
    rcases hown'.2 with ⟨hv, _⟩ | ⟨g, cap, cur, hv, _⟩
    · exact ⟨_, _, _, hv⟩
    · exact ⟨_, _, _, hv⟩
  go_wp2_with fail
  go_ret2
  refine ⟨rfl, .inr ?_, ?_, fun k hk hkb hk8 => ?_⟩
  · exact Lib.BuilderAt.put (T := 68) (e := 5) hB hb2 (bs' := bs ++ Lib.strCells s) (by simpa [Lib.strCells_length] using hown') neB5
  · exact (hb1.grown hgrow (by have := hb1.size; omega) (fun k hk => (hown.lt k hk).1)).setCell (p := ⟨b, 1, none⟩) hB _
  · refine (set_off hkb).trans ((hgrow.block k (by omega) fun e => ?_).trans (hk1.out k hkb))
    obtain ⟨cur, hc⟩ := own_cells hown e.symm
    exact hk8 cur (by rw [← hk1.out k hkb]; exact hc)
theorem bString (B b : Nat) (l : List UInt8) (w : World) (h : IsB B b (Lib.byteCells l) w) (hBw : B ≤ w.heap.size) : Calls Tryd.prog 29 #[.pointer (some ⟨b, 0, none⟩)] w fun e w' => e = .returned (.string ⟨l.toArray⟩) ∧ Below B w w' :=
  Any.Builder_String_any Tryd.lays169 ⟨⟨sizeB, liesB⟩, Tryd.underlying5, by intro w; kernel_rfl, by intro w; kernel_rfl, by intro w; kernel_rfl, infoByte, by kernel_rfl, by kernel_rfl, neB5⟩ B b l w h hBw
theorem Itoa_any (n : Nat) (hn : n ≤ 65535) (w : World) (htab : Lib.TabIs Tryd.prog w "internal/strconv.uint64pow10" .u64 Lib.pow10Tab) : Calls Tryd.prog 28 #[.int .i64 (n : Int)] w fun e w' => e = .returned (.string ⟨(Lib.itoa (n : Int)).toArray⟩) ∧ Below w.heap.size w w' :=
  (Any.strconv_Itoa Tryd.lays171 (n : Int) (by omega) (by omega) w htab).mono fun e w' ⟨h1, k, os, h2⟩ => ⟨h1, by rw [h2]; exact Lib.below_grow _ w (Nat.le_refl _) k os⟩
end Go.Proofs.YtfikmlckcbnppaaDoor

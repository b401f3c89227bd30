/- A cursor's GetDim. -/
import Derived.Test.YtfhphjgcmbneeaaDoorCuK
namespace Go.Proofs.YtfhphjgcmbneeaaDoor
open Go.ChangeShapes Go.WideShapes Go.ChangeAt Go.RowKit

def i64W (x : Int) : Int := wrap64 x
set_option maxRecDepth 20000 in
set_option maxHeartbeats 1000000 in
theorem GetDim_any {w : World} {c g len cap st en : Nat} {hi : Bool} {f : Nat → Int} (h : Cs w c 0 g len cap st en hi f) (kt : KT w) (zc : 0 < c) (zg : 0 < g) (t : Tk) (pc : Option Addr) (cc : Nat) :
    Calls Tryd.prog 16 #[.pointer (some ⟨c, 0, none⟩), tkV t pc cc] w fun e w' => e = .returned (.tuple #[.int .i64 (i64W (gwV (dimG t) hi len st en f t.siz (t.a.p, t.a.o))), .int .i64 (i64W (gwV (dimG t) hi len st en f t.siz (t.b.p, t.b.o))), .int .i64 (gwE (dimG t) len en t.siz)]) ∧ Cs w' c 0 g len cap st (gwN (dimG t) len en t.siz) hi f ∧ Cb c 0 g w w' := by
  have G := fun W (hW : Below w.heap.size w W) => isDim_any t pc cc W (kt.below kt.pos hW)
  have LD := (tk_of (heap_al w (tkO t pc cc))).load
  unfold gwV gwE gwN
  have H : Hid (Cs w c 0 g len cap st en hi f) := h
  cases hg : dimG t with
  | false =>
    rw [hg] at G
    clear h
    have e0 : (if false = true then clE len en t.siz else 1) = 1 := rfl
    rw [e0, if_neg (by decide), if_neg (by decide), if_neg (by decide)]
    have e1 : i64W 0 = 0 := by unfold i64W wrap64; omega
    rw [e1]
    clear e0 e1
    go_enter Tryd.func16, Tryd.ntmps16
    go_wp2_with (first | (go_at_call 30; refine (G _ (bel1 _ _)).mono ?_; rintro e w1 ⟨rfl, hb1⟩) | (guard_target =~ wpList _ _ _ (Oper.mk _ (Op.load 35 _) _ _ _ _ :: _) _ _; go_must (refine wpList_ld 35 _ rfl rfl _ _ rfl LD ?_); simp only [pts]))
    exact bodyPost_ret (v := .tuple #[.int .i64 0, .int .i64 0, .int .i64 1]) (by simp [results, Tryd.results16, go_sem]) rfl ⟨rfl, H.out.below (belT (bel1 _ _) hb1), Cb.of_below (belT (bel1 _ _) hb1) H.out.lt⟩
  | true =>
    rw [hg] at G
    obtain ⟨hsz, hsp⟩ := goods_ok (dim_ok hg)
    have RD := fun W (hW : Below w.heap.size w W) b (hb : w.heap.size ≤ b) (hr : SpRow W b (dimS t)) => read_any (h.below hW) (kt.below kt.pos hW) zc zg t.siz (dimS t) b 2 hr (fun s hs => goodB_off (hsp s hs) hsz.2) (by simp [dimS]) (by have := h.lt; omega) (by have := h.row.lt; omega) hsz.1 hsz.2
    have hl : (dimS t).length = 2 := rfl
    rw [hl] at RD
    clear h hsp hsz hl hg
    rw [if_pos rfl, if_pos rfl]
    generalize clE len en t.siz = E at RD ⊢
    by_cases hE : E = 0
    · subst hE
      rw [if_pos rfl, if_pos rfl]
      go_enter Tryd.func16, Tryd.ntmps16
      go_wp2_with (first
        | (go_at_call 30; refine (G _ (bel1 _ _)).mono ?_; rintro e w1 ⟨rfl, hb1⟩; obtain ⟨hc1, hf1⟩ := bcell hb1)
        | (guard_target =~ wpList _ _ _ (Oper.mk _ (Op.load 35 _) _ _ _ _ :: _) _ _; go_must (refine wpList_ld 35 _ rfl rfl _ _ rfl LD ?_); simp only [pts])
        | (go_at_call 34; refine (RD _ (belT (belT (bel1 _ _) hb1) (bel1 _ _)) w1.heap.size (belT (bel1 _ _) hb1).size (sp_new2' rfl)).mono ?_; rintro e w2 ⟨R0, R1, R2⟩; obtain ⟨vb, vc, rfl, A⟩ := R0.yes rfl; have a0 : w2.cell? ⟨vb, 0, none⟩ = some (.int .u64 (getW hi st (clN len en t.siz) f (en + t.a.o) t.a.p)) := A.c 0 _ rfl; have a1 : w2.cell? ⟨vb, 1, none⟩ = some (.int .u64 (getW hi st (clN len en t.siz) f (en + t.b.o) t.b.p)) := A.c 1 _ rfl))
      go_quiet (fail)
      go_wp2_with fail
      exact bodyPost_ret (v := .tuple #[.int .i64 (i64W (getW hi st (clN len en t.siz) f (en + t.a.o) t.a.p)), .int .i64 (i64W (getW hi st (clN len en t.siz) f (en + t.b.o) t.b.p)), .int .i64 0]) (by simp [results, Tryd.results16, go_sem, i64W]) rfl ⟨rfl, R1.below dN, ((Cb.of_below (belT (belT (bel1 _ _) hb1) (bel1 _ _)) H.out.lt).trans R2).trans (Cb.of_below dN R1.lt)⟩
    · have hE' : (E != 0) = true := by simpa using hE
      rw [if_neg hE, if_neg hE]
      have e1 : i64W 0 = 0 := by unfold i64W wrap64; omega
      rw [e1]
      clear e1
      go_enter Tryd.func16, Tryd.ntmps16
      go_wp2_with (first
        | (go_at_call 30; refine (G _ (bel1 _ _)).mono ?_; rintro e w1 ⟨rfl, hb1⟩; obtain ⟨hc1, hf1⟩ := bcell hb1)
        | (guard_target =~ wpList _ _ _ (Oper.mk _ (Op.load 35 _) _ _ _ _ :: _) _ _; go_must (refine wpList_ld 35 _ rfl rfl _ _ rfl LD ?_); simp only [pts])
        | (go_at_call 34; refine (RD _ (belT (belT (bel1 _ _) hb1) (bel1 _ _)) w1.heap.size (belT (bel1 _ _) hb1).size (sp_new2' rfl)).mono ?_; rintro e w2 ⟨R0, R1, R2⟩; obtain rfl := R0.no hE))
      exact bodyPost_ret (v := .tuple #[.int .i64 0, .int .i64 0, .int .i64 E]) (by simp [results, Tryd.results16, go_sem]) rfl ⟨rfl, R1, (Cb.of_below (belT (belT (bel1 _ _) hb1) (bel1 _ _)) H.out.lt).trans R2⟩
end Go.Proofs.YtfhphjgcmbneeaaDoor

import Derived.Test.YtchfphakhmifmabGreatDoorRef16
import Derived.Test.YtchfphakhmifmabGreatDoorRef17
namespace Go.Proofs.YtchfphakhmifmabGreatDoor
set_option maxRecDepth 1000000
set_option maxHeartbeats 16000000
open Go.ChangeShapes Go.WideShapes Go.ChangeAt Go.RowKit
theorem ru3 {a:ByteArray} {c e:Int} {t:List Nat × Nat × Nat} {s:ByteArray} (h:uneN s = t) (h1:a = sOf t.1) (h2:c = (t.2.1:Int)) (h3:e = (t.2.2:Int)):Ending.returned (.tuple #[.string a,.int .i64 c,.int .i64 e]) = .returned (.tuple #[.string (sOf (uneN s).1),.int .i64 ((uneN s).2.1:Nat),.int .i64 ((uneN s).2.2:Nat)]):=by rw [h,h1,h2,h3]
theorem numR_lt (base:Nat) (l:List Nat):∀ b ∈ numR base l,b < 256:=by
 unfold numR
 split
 ·intro b hb;cases hb
 ·split
  ·rename_i n hn
   split
   ·rename_i hx
    rw [← xml_good n hx]
    exact encI_lt _
   ·intro b hb;cases hb
  ·intro b hb;cases hb
theorem entR_lt (X:ByteArray):∀ b ∈ entR X,b < 256:=by
 unfold entR
 split
 ·rename_i b hb
  intro c hc
  simp at hc
  subst hc
  unfold nameB at hb
  split at hb
  ·cases hb;omega
  ·split at hb
   ·cases hb;omega
   ·split at hb
    ·cases hb;omega
    ·split at hb
     ·cases hb;omega
     ·split at hb
      ·cases hb;omega
      ·cases hb
 ·split
  ·exact numR_lt _ _
  ·split
   ·exact numR_lt _ _
   ·intro b hb;cases hb
theorem rUnescape (s:ByteArray) (w:World) (hs:s.size ≤ 35184372088832):Calls Tryz.prog 127 #[.string s] w fun e w'=>e = .returned (.tuple #[.string (sOf (uneN s).1),.int .i64 ((uneN s).2.1:Nat),.int .i64 ((uneN s).2.2:Nat)]) ∧ Below w.heap.size w w':=by
 go_enter Tryz.func127,Tryz.ntmps127
 go_wp2_with fail
 go_loopw [5,6] (fun v i wr=>∃ (a:Nat) (L:List Nat),a ≤ s.size ∧ i = .int .i64 (a:Int) ∧ Hid (uneF s (s.size + 1) a L = uneN s) ∧ L.length ≤ a ∧ Buf wr w.heap.size v L ∧ Below w.heap.size w wr) (fun _ i _=>s.size - (intOf i).toNat)
 case atStart=>exact ⟨0,[],Nat.zero_le _,rfl,rfl,Nat.le_refl _,Buf.nil _ _,Below.refl _ _⟩
 case round =>
  obtain ⟨a,L,ha,rfl,hu,hL,hB,HB⟩:=hrel
  by_cases hlt:a < s.size
  ·have d0:decide ((a:Int) < (s.size:Int)) = true:=by simp;omega
   have hst:=une_step s a L hlt
   obtain ⟨c,hc⟩:∃ c,Hid (c = ch s a):=⟨_,rfl⟩
   have ix:∀ w:World,(Instr.index 9 (.string s) (.int .i64 (a:Int))).run Tryz.prog w = .ok (.int .u8 (c:Int)) w:=fun w=>by rw [hc.out];exact nidx (w:=w) s a hlt .i64
   by_cases h38:c = 38
   ·have q1:((c:Int) != 38) = false:=by simp;omega
    rw [if_pos (by rw [← hc.out];exact h38)] at hst
    have hst:Hid (uneF s (s.size + 1) a L = match entAt s a with
     | some (M,b)=>uneF s (s.size + 1) b (L ++ M)
     | none=>([],22,a)):=hst
    have hc59:Hid (¬ ch s a = 59):=by show ¬ _;rw [← hc.out];omega
    clear h38
    go_wp2_with fail
    go_loopw [7] (fun v w2=>∃ e:Nat,e ≤ s.size ∧ v = .int .i64 (e:Int) ∧ Hid (a ≤ e ∧ ∀ j,a ≤ j → j < e → ¬ ch s j = 59) ∧ Buf w2 w.heap.size u5 L ∧ Below w.heap.size w w2) (fun v _=>s.size - (intOf v).toNat)
    case atStart=>exact ⟨a,ha,rfl,⟨Nat.le_refl _,fun j h1 h2=>absurd h2 (by omega)⟩,hB,HB⟩
    case round =>
     clear hB HB
     obtain ⟨e,he,rfl,hno,hB,HB⟩:=hrel
     have fin:∀ (hae:a < e) (hend:e < s.size → ch s e = 59),entAt s a = if e < s.size ∧ entR (s.extract (a + 1) e) ≠ [] then some (entR (s.extract (a + 1) e),e + 1) else none:=fun hae hend=>ent_tie s a e hae he (fun j h1 h2=>hno.out.2 j (by omega) h2) hend
     by_cases hel:e < s.size
     ·have d1:decide ((e:Int) < (s.size:Int)) = true:=by simp;omega
      obtain ⟨c2,hc2⟩:∃ c2,Hid (c2 = ch s e):=⟨_,rfl⟩
      have ix2:∀ w:World,(Instr.index 9 (.string s) (.int .i64 (e:Int))).run Tryz.prog w = .ok (.int .u8 (c2:Int)) w:=fun w=>by rw [hc2.out];exact nidx (w:=w) s e hel .i64
      by_cases h59:c2 = 59
      ·have q2:((c2:Int) != 59) = false:=by simp;omega
       have hae:a < e:=by
        have h1:=hno.out.1
        have h2:¬ a = e:=fun h=>hc59.out (by rw [h,← hc2.out];exact h59)
        omega
       have hent:=fin hae (fun _=>by rw [← hc2.out];exact h59)
       have e1:((e:Int) == (s.size:Int)) = false:=by simp;omega
       have sl:∀ w:World,(Instr.slice 9 (.string s) (some (.int .i64 ((a:Int) + 1))) (some (.int .i64 (e:Int))) none).run Tryz.prog w = .ok (.string (s.extract (a + 1) e)) w:=fun w=>by
        rw [run_slice_string w 9 s .i64 .i64 _ _ Tryz.underlying9 (by omega) (by omega) (by omega),show ((a:Int) + 1).toNat = a + 1 by omega,Int.toNat_natCast]
       have hXz:Hid ((s.extract (a + 1) e).size = e - (a + 1)):=size_ext s _ _ (by omega)
       have hE:=fun w=>rentity (s.extract (a + 1) e) (by rw [hXz.out];omega) w
       have hlt2:=entR_lt (s.extract (a + 1) e)
       clear h59 fin
       generalize s.extract (a + 1) e = X at hE hlt2 hent sl hXz
       by_cases hnil:entR X = []
       ·have hg:Hid (uneN s = ([],22,a)):=by show _ = _;rw [← hu.out,hst.out,hent,if_neg (fun h=>h.2 hnil)]
        rw [hnil] at hE
        have hE:∀ w,Calls Tryz.prog 158 #[.string X] w fun e w'=>e = .returned (.string { data:=#[] }) ∧ Below w.heap.size w w':=hE
        clear hnil hent hst hu
        go_wp2_with (first | (go_at_call 158;refine (hE _).mono ?_;rintro e w1 ⟨rfl,hb1⟩;have HB:=bdt HB hb1;clear hb1))
        go_ret3
        exact ⟨ru3 hg.out rfl rfl rfl,HB⟩
       ·have hM:∃ M b,entAt s a = some (M,b) ∧ M = entR X ∧ b = e + 1:=⟨_,_,by rw [hent,if_pos ⟨hel,hnil⟩],rfl,rfl⟩
        have hg:Hid (uneF s (s.size + 1) (e + 1) (L ++ lOf (sOf (entR X))) = uneN s):=by show _ = _;rw [← hu.out,hst.out,hent,if_pos ⟨hel,hnil⟩,lOf_sOf _ hlt2]
        have hbd:(entR X).length ≤ e + 1 - a:=by
         obtain ⟨M,b,h1,h2,h3⟩:=hM
         have:=entAt_bd hlt h1
         rw [h2,h3] at this
         exact this.2.2
        have hne:((sOf (entR X)).toList == []) = false:=by
         rw [nempty,sOf_size]
         exact decide_eq_false (fun h=>hnil (List.length_eq_zero_iff.1 h))
        have hsz:(sOf (entR X)).size = (entR X).length:=sOf_size _
        clear hM hnil hent hst hu hlt2
        generalize sOf (entR X) = T at hE hg hne hsz
        have hsz:Hid (T.size = (entR X).length):=hsz
        go_wp2_with (first
         | (go_at_call 158;refine (hE _).mono ?_;rintro e w1 ⟨rfl,hb1⟩;have hB:=hB.below hb1;have HB:=bdt HB hb1;clear hb1;obtain ⟨v3,w3,hrun,hb3,hbel3⟩:=hB.str T (by rw [hsz.out];omega) HB.size)
         | (at_builtin;refine (wpList_append_ex (by rfl) _ _ _ _ (by rfl) _ _ (by rfl) (by rfl) (fun a b=>a = v3 ∧ b = w3) ⟨v3,w3,hrun,rfl,rfl⟩ ?_);rintro _ _ ⟨rfl,rfl⟩))
        go_roundw
        case rel=>exact ⟨e + 1,L ++ lOf T,by omega,by go_num,hg.out,by rw [List.length_append,lOf_length,hsz.out];omega,hb3,HB.trans hbel3⟩
        case measure=>simp [intOf];omega
      ·have q2:((c2:Int) != 59) = true:=by simp;omega
       have h59:Hid (¬ c2 = 59):=h59
       clear fin
       go_wp2_with fail
       go_roundw
       case rel=>exact ⟨e + 1,by omega,by go_num,⟨by have:=hno.out.1;omega,fun j h1 h2=>by
        by_cases hj:j = e
        ·rw [hj,← hc2.out];exact h59.out
        ·exact hno.out.2 j h1 (by omega)⟩,hB,HB⟩
       case measure=>simp [intOf];omega
     ·obtain rfl:e = s.size:=by omega
      have d1:decide ((s.size:Int) < (s.size:Int)) = false:=by simp
      have e1:((s.size:Int) == (s.size:Int)) = true:=by simp
      have hent:=fin (by omega) (fun h=>absurd h hel)
      have hg:Hid (uneN s = ([],22,a)):=by show _ = _;rw [← hu.out,hst.out,hent,if_neg (fun h=>hel h.1)]
      have sl:∀ w:World,(Instr.slice 9 (.string s) (some (.int .i64 ((a:Int) + 1))) (some (.int .i64 (s.size:Int))) none).run Tryz.prog w = .ok (.string (s.extract (a + 1) s.size)) w:=fun w=>by
       rw [run_slice_string w 9 s .i64 .i64 _ _ Tryz.underlying9 (by omega) (by omega) (by omega),show ((a:Int) + 1).toNat = a + 1 by omega,Int.toNat_natCast]
      have hXz:Hid ((s.extract (a + 1) s.size).size = s.size - (a + 1)):=size_ext s _ _ (by omega)
      have hE:=fun w=>rentity (s.extract (a + 1) s.size) (by rw [hXz.out];omega) w
      clear fin hent hst hu
      generalize s.extract (a + 1) s.size = X at hE sl hXz
      generalize sOf (entR X) = T at hE
      go_wp2_with (first | (go_at_call 158;refine (hE _).mono ?_;rintro e w1 ⟨rfl,hb1⟩;have HB:=bdt HB hb1;clear hb1))
      go_ret3
      exact ⟨ru3 hg.out rfl rfl rfl,HB⟩
   ·have q1:((c:Int) != 38) = true:=by simp;omega
    have hg:Hid (uneF s (s.size + 1) (a + 1) (L ++ [c]) = uneN s):=by show _ = _;rw [← hu.out,hst,if_neg (by rw [← hc.out];exact h38),hc.out]
    obtain ⟨v3,w3,hrun,hb3,hbel3⟩:=hB.lit [c] 1 1 rfl (by simp;omega) HB.size
    have hrun:∀ ty,(Builtin.append_ #[59,59] ty #[u5,.slice (some ⟨wr.heap.size,0,none⟩) 1 1]).run Tryz.prog (wr.alloc (.cells #[.int .u8 (c:Int)] 5)) = .ok v3 w3:=hrun
    clear h38 hst hu hB
    go_wp2_with (first | (at_builtin;refine (wpList_append_ex (by rfl) _ _ _ _ (by rfl) _ _ (by rfl) (by rfl) (fun a b=>a = v3 ∧ b = w3) ⟨v3,w3,hrun,rfl,rfl⟩ ?_);rintro _ _ ⟨rfl,rfl⟩))
    go_roundw
    case rel=>exact ⟨a + 1,L ++ [c],by omega,by go_num,hg.out,by simp;omega,hb3,HB.trans hbel3⟩
    case measure=>simp [intOf];omega
  ·obtain rfl:a = s.size:=by omega
   have d0:decide ((s.size:Int) < (s.size:Int)) = false:=by simp
   have hg:Hid (uneN s = (L,0,0)):=by show _ = _;rw [← hu.out,une_end s s.size L (Nat.le_refl _)]
   have hcv:=hB.conv
   go_wp2_with fail
   go_ret3
   exact ⟨ru3 hg.out rfl rfl rfl,HB⟩
end Go.Proofs.YtchfphakhmifmabGreatDoor

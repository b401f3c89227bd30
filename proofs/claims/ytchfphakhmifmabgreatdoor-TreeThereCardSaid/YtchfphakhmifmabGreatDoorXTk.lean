import Derived.Test.YtchfphakhmifmabGreatDoorXPc2
namespace Go.Proofs.YtchfphakhmifmabGreatDoor
open Go.ChangeShapes Go.WideShapes Go.ChangeAt Go.RowKit Go.Shelf Go.Lib
theorem stOk_le {s:ByteArray} {f a:Nat} (h:stOk s f a):a ≤ s.size:=by
 rcases h with ⟨_,rfl,_⟩ | ⟨_,⟨_,rfl⟩ | ⟨_,ha⟩ | ⟨_,ha,_⟩ | ⟨_,ha⟩ | ⟨_,ha⟩ | ⟨_,ha⟩ | ⟨_,ha⟩ | ⟨_,ha⟩ | ⟨_,ha⟩ | ⟨_,ha⟩⟩ <;> omega
theorem runZ_told {s:ByteArray}:∀ {n:Nat} {f:Option Nat} {a:Nat} {nx:Option Nat} {b:Nat} {t:Tok},okO s a f → runZ s n f a = .told nx b t → a < b ∧ b ≤ s.size ∧ okO s b nx
 | n,none,a,nx,b,t,_,h=>by cases n <;> cases h
 | 0,some f,a,nx,b,t,_,h=>by cases h
 | n + 1,some f,a,nx,b,t,hok,h=>by
  have hgo:=step_go s f a hok
  simp only [runZ] at h
  cases hz:stepZ s f a with
  | bad e p=>rw [hz] at h;cases h
  | go nx' b' ot =>
   rw [hz] at h hgo
   cases ot with
   | some t' =>
    dsimp only at h
    injection h with h1 h2 h3
    subst h1 h2
    cases nx' with
    | none=>exact hgo.elim
    | some g=>exact ⟨hgo.2,stOk_le hgo.1,hgo.1⟩
   | none =>
    dsimp only at h
    cases nx' with
    | none=>cases n <;> cases h
    | some g =>
     have:=runZ_told (n:=n) (f:=some g) hgo.1 h
     exact ⟨by have:=hgo.2.1;omega,this.2⟩
theorem piece_told {s:ByteArray} {f:Option Nat} {a:Nat} {nx:Option Nat} {b:Nat} {t:Tok} (hok:okO s a f) (h:pieceZ s f a = .told nx b t):a < b ∧ b ≤ s.size ∧ okO s b nx:=runZ_told hok h
def toksF (s:ByteArray):Nat → Option Nat → Nat → List Tok × Option (Nat × Nat)
 | 0,_,_=>([],none)
 | n + 1,f,a=>match pieceZ s f a with
  | .bad e p=>([],some (e,p))
  | .end_ _=>([],none)
  | .told nx b t=>(t :: (toksF s n nx b).1,(toksF s n nx b).2)
theorem toksF_more (s:ByteArray):∀ (n m:Nat) (f:Option Nat) (a:Nat),okO s a f → a ≤ s.size → s.size < n + a → s.size < m + a → toksF s n f a = toksF s m f a
 | 0,_,_,a,_,ha,hn,_=>by omega
 | n + 1,0,_,a,_,ha,_,hm=>by omega
 | n + 1,m + 1,f,a,hok,ha,hn,hm=>by
  simp only [toksF]
  cases hz:pieceZ s f a with
  | bad e p=>rfl
  | end_ b=>rfl
  | told nx b t =>
   have:=piece_told hok hz
   dsimp only
   rw [toksF_more s n m nx b this.2.2 this.2.1 (by omega) (by omega)]
def toksZ (s:ByteArray) (f:Option Nat) (a:Nat):List Tok × Option (Nat × Nat):=toksF s (s.size + 1) f a
theorem toksZ_bad {s:ByteArray} {f:Option Nat} {a e p:Nat} (h:pieceZ s f a = .bad e p):toksZ s f a = ([],some (e,p)):=by
 unfold toksZ;simp only [toksF,h]
theorem toksZ_end {s:ByteArray} {f:Option Nat} {a b:Nat} (h:pieceZ s f a = .end_ b):toksZ s f a = ([],none):=by
 unfold toksZ;simp only [toksF,h]
theorem toksZ_told {s:ByteArray} {f:Option Nat} {a:Nat} {nx:Option Nat} {b:Nat} {t:Tok} (hok:okO s a f) (h:pieceZ s f a = .told nx b t):toksZ s f a = (t :: (toksZ s nx b).1,(toksZ s nx b).2):=by
 have:=piece_told hok h
 have e:toksF s s.size nx b = toksZ s nx b:=toksF_more s _ _ nx b this.2.2 this.2.1 (by omega) (by omega)
 show toksF s (s.size + 1) f a = _
 simp only [toksF,h]
 rw [e]
def toksN (s:ByteArray):List Tok × Option (Nat × Nat):=toksZ s (some 66) 0
theorem toks_len (s:ByteArray):∀ (n:Nat) (f:Option Nat) (a:Nat),okO s a f → a ≤ s.size → (toksF s n f a).1.length ≤ s.size - a
 | 0,_,_,_,_=>Nat.zero_le _
 | n + 1,f,a,hok,ha=>by
  simp only [toksF]
  cases hz:pieceZ s f a with
  | bad e p=>exact Nat.zero_le _
  | end_ b=>exact Nat.zero_le _
  | told nx b t =>
   have:=piece_told hok hz
   have ih:=toks_len s n nx b this.2.2 this.2.1
   dsimp only
   rw [List.length_cons]
   omega
end Go.Proofs.YtchfphakhmifmabGreatDoor

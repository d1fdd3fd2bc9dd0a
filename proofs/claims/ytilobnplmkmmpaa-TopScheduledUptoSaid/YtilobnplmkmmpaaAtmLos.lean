/- Package attempts: what was made is lost; the winner; the end. -/
import Derived.Test.YtilobnplmkmmpaaAtmGon
namespace Go.Proofs.Ytilobnplmkmmpaa
open Go.RowKit

/-- a winner's attempt is there and good -/
def WinOk (b : Bd) : Prop := ∀ i, (b.T i).wi ≠ 0 → ∃ hk : (b.T i).wi - 1 < (b.T i).A.length, ((b.T i).A[(b.T i).wi - 1]).st = 1
def losT (t : Tk) : Tk := { t with A := setSt t.A (t.wi - 1) 3, wi := 0 }
def lostA (b : Bd) (x a : Int) : Bool := inB b x && (decide (x < (b.m : Int)) && (((b.T x.toNat).wi != 0) && decide (((b.T x.toNat).wi : Int) = a)))
def lostB (b : Bd) (x a : Int) : Bd := if lostA b x a then setTk b x.toNat (losT (b.T x.toNat)) else b
theorem raw_los {hs : Nat → Value} {b : Bd} {i : Nat} {A : List Att} (om orr : Int) (hfi : fiA A = (b.T i).fi) (hlv : lvA A = (b.T i).lv) (h1 : om = ((setTk b i { b.T i with A := A, wi := 0 }).om : Int)) (h2 : orr = ((setTk b i { b.T i with A := A, wi := 0 }).orr : Int)) :
    ({ rawB hs b with R := updN (rawB hs b).R i { (rawB hs b).R i with wi := 0 }, A := updN (rawB hs b).A i A, om := om, orr := orr } : Raw) = rawB hs (setTk b i { b.T i with A := A, wi := 0 }) := by
  refine raw_ext rfl rfl (funext fun j => ?_) (funext fun j => ?_) rfl rfl h1 h2 rfl
  · show updN _ i _ j = TkR.mk (hs j) _ _ _ _
    by_cases e : j = i
    · subst e
      simp only [updN_same, rawB, setTk]
      rw [show Tk.fi { b.T j with A := A, wi := 0 } = (b.T j).fi from hfi, show Tk.lv { b.T j with A := A, wi := 0 } = (b.T j).lv from hlv]
      rfl
    · simp only [updN_other _ _ e, rawB, setTk]
  · show updN _ i _ j = (updN b.T i _ j).A
    by_cases e : j = i
    · subst e
      simp only [updN_same]
    · simp only [updN_other _ _ e, rawB]
section
variable {B p tb : Nat} {w : World} {hs : Nat → Value} {b : Bd}
end
end Go.Proofs.Ytilobnplmkmmpaa

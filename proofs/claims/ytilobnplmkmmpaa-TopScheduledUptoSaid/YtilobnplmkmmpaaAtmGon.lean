/- Package attempts: a node is gone. -/
import Derived.Test.YtilobnplmkmmpaaAtmRep
namespace Go.Proofs.Ytilobnplmkmmpaa
open Go.RowKit

def lvN (nd : Int) (a : Att) : Att := if a.st = 0 ∧ a.nd = nd then { a with st := 3 } else a
def lvK (A : List Att) (nd : Int) (j : Nat) : List Att := (A.take j).map (lvN nd) ++ A.drop j
theorem lvK_len (A : List Att) (nd : Int) (j : Nat) : (lvK A nd j).length = A.length := by
  simp [lvK]
  omega
theorem lvK_get (A : List Att) (nd : Int) (j i : Nat) (h : i < A.length) : (lvK A nd j)[i]? = some (if i < j then lvN nd A[i] else A[i]) := by
  unfold lvK
  by_cases hij : i < j
  · rw [List.getElem?_append_left (by simp; omega)]
    simp [hij, h]
  · rw [List.getElem?_append_right (by simp; omega)]
    simp only [List.length_map, List.length_take, hij, if_false]
    rw [List.getElem?_drop, List.getElem?_eq_some_iff]
    refine ⟨by omega, ?_⟩
    congr 1
    omega
theorem lvK_ext {A B : List Att} (nd : Int) (j : Nat) (hl : B.length = A.length) (h : ∀ i (hi : i < A.length), B[i]? = some (if i < j then lvN nd A[i] else A[i])) : B = lvK A nd j := by
  apply List.ext_getElem?
  intro i
  by_cases hi : i < A.length
  · rw [h i hi, lvK_get A nd j i hi]
  · rw [List.getElem?_eq_none (by omega), List.getElem?_eq_none (by rw [lvK_len]; omega)]
theorem lvK_at (A : List Att) (nd : Int) (j i : Nat) (h : i < (lvK A nd j).length) (h2 : i < A.length) : (lvK A nd j)[i] = if i < j then lvN nd A[i] else A[i] := by
  have := lvK_get A nd j i h2
  rw [List.getElem?_eq_getElem h] at this
  injection this
theorem lvK_first (A : List Att) (nd : Int) : lvK A nd (fiA A) = A := by
  refine (lvK_ext nd _ rfl fun i hi => ?_).symm
  rw [List.getElem?_eq_getElem hi]
  by_cases h : i < fiA A
  · have := fi_before A i h
    have hne : ¬ (A[i].st = 0) := by simpa [rn1] using this
    simp [h, lvN, hne]
  · simp [h]
theorem lvK_yes (A : List Att) (nd : Int) (j : Nat) (h : j < A.length) (h0 : A[j].st = 0 ∧ A[j].nd = nd) : setSt (lvK A nd j) j 3 = lvK A nd (j + 1) := by
  refine lvK_ext nd _ (by rw [setSt_len, lvK_len]) fun i hi => ?_
  rw [List.getElem?_eq_getElem (by rw [setSt_len, lvK_len]; exact hi), setSt_get, lvK_at A nd j i (by rw [lvK_len]; exact hi) hi]
  by_cases e : j = i
  · subst e
    simp [lvN, h0]
  · by_cases e2 : i < j
    · simp [e, e2, show i < j + 1 by omega]
    · simp [e, e2, show ¬ i < j + 1 by omega]
theorem lvK_no (A : List Att) (nd : Int) (j : Nat) (h : j < A.length) (h0 : ¬ (A[j].st = 0 ∧ A[j].nd = nd)) : lvK A nd j = lvK A nd (j + 1) := by
  refine lvK_ext nd _ (by rw [lvK_len]) fun i hi => ?_
  rw [lvK_get A nd j i hi]
  by_cases e : j = i
  · subst e
    simp [lvN, h0]
  · by_cases e2 : i < j
    · simp [e2, show i < j + 1 by omega]
    · simp [e2, show ¬ i < j + 1 by omega]
theorem lvK_all (A : List Att) (nd : Int) : lvK A nd A.length = A.map (lvN nd) := by simp [lvK]
theorem setTk_same (b : Bd) (i : Nat) (t : Tk) (h : t = b.T i) : setTk b i t = b := by
  subst h
  unfold setTk
  have : updN b.T i (b.T i) = b.T := by
    funext j
    by_cases e : j = i
    · subst e; exact updN_same _ _ _
    · exact updN_other _ _ e
  rw [this]
theorem setTk_twice (b : Bd) (i : Nat) (t t' : Tk) : setTk (setTk b i t) i t' = setTk b i t' := by
  unfold setTk
  simp only [updN_twice]
theorem meas_up2 {L f : Nat} (h : f < L) : L - (intOf (Value.int .i64 ((f : Int) + 1))).toNat < L - (intOf (Value.int .i64 (f : Int))).toNat := by
  show L - ((f : Int) + 1).toNat < L - ((f : Int)).toNat
  omega
section
variable {B p tb : Nat} {w : World} {hs : Nat → Value} {b : Bd}
end
def lvT (nd : Int) (t : Tk) : Tk := { t with A := t.A.map (lvN nd) }
def goneK (b : Bd) (nd : Int) (j : Nat) : Bd := { b with T := fun i => if i < j then lvT nd (b.T i) else b.T i }
def goneB (b : Bd) (nd : Int) : Bd := goneK b nd b.n
theorem goneK_zero (b : Bd) (nd : Int) : goneK b nd 0 = b := by
  unfold goneK
  simp
theorem goneK_succ (b : Bd) (nd : Int) (j : Nat) : setTk (goneK b nd j) j { (goneK b nd j).T j with A := ((goneK b nd j).T j).A.map (lvN nd) } = goneK b nd (j + 1) := by
  have e : (goneK b nd j).T j = b.T j := by simp [goneK]
  rw [e]
  unfold setTk goneK
  congr 1
  funext i
  by_cases ei : i = j
  · subst ei
    rw [updN_same, if_pos (by omega)]
    rfl
  · rw [updN_other _ _ ei]
    show (if i < j then lvT nd (b.T i) else b.T i) = _
    by_cases h : i < j
    · rw [if_pos h, if_pos (by omega)]
    · rw [if_neg h, if_neg (by omega)]
end Go.Proofs.Ytilobnplmkmmpaa

/- Lines joined by newlines, and the lines of what they make; how many begin ahead of a place. -/
import Derived.Test.YtijefbpgpehmfaaSplFns
namespace Go.Proofs.Ytijefbpgpehmfaa
open Go.RowKit

/-- all with a newline each -/
def catN (xs : List (List UInt8)) : List UInt8 := xs.flatMap (· ++ [10])
/-- where they stand -/
def pcs (a : Nat) : List (List UInt8) → List (Nat × Nat)
  | [] => []
  | x :: xs => (a, a + x.length) :: pcs (a + x.length + 1) xs
theorem pcs_len (xs : List (List UInt8)) : ∀ a, (pcs a xs).length = xs.length := by
  induction xs with
  | nil => intro a; rfl
  | cons x xs ih => intro a; show (pcs _ xs).length + 1 = _; rw [ih]; rfl
theorem catN_cons (x : List UInt8) (xs : List (List UInt8)) : catN (x :: xs) = x ++ [10] ++ catN xs := rfl
theorem catN_snoc (x : List UInt8) (xs : List (List UInt8)) : catN (xs ++ [x]) = catN xs ++ x ++ [10] := by simp [catN]
theorem pcs_snoc (x : List UInt8) (xs : List (List UInt8)) : ∀ a, pcs a (xs ++ [x]) = pcs a xs ++ [(a + (catN xs).length, a + (catN xs).length + x.length)] := by
  induction xs with
  | nil => intro a; rfl
  | cons y xs ih =>
    intro a
    show (a, a + y.length) :: pcs (a + y.length + 1) (xs ++ [x]) = (a, a + y.length) :: (pcs (a + y.length + 1) xs ++ _)
    rw [ih, catN_cons]
    simp only [List.length_append, List.length_cons, List.length_nil]
    rw [show a + y.length + 1 + (catN xs).length = a + (y.length + (0 + 1) + (catN xs).length) by omega]
theorem lf_here2 {pre x t : List UInt8} (hx : (10 : UInt8) ∉ x) : linesFrom (pre ++ (x ++ 10 :: t)) pre.length = (pre.length, pre.length + x.length) :: linesFrom (pre ++ (x ++ 10 :: t)) (pre.length + x.length + 1) := by
  have e : lnLen ((pre ++ (x ++ 10 :: t)).drop pre.length) = x.length := by
    rw [List.drop_left]
    refine ln_eq _ (by simp) (fun k hk => ?_) (fun _ => ?_)
    · rw [List.getElem?_append_left hk]
      intro e
      exact hx (List.mem_of_getElem? e)
    · rw [List.getElem?_append_right (Nat.le_refl _)]; simp
  have h := lf_cons (l := pre ++ (x ++ 10 :: t)) (a := pre.length) (by simp; omega)
  rw [e] at h
  exact h
theorem lf_cat (xs : List (List UInt8)) : ∀ (pre t : List UInt8), (∀ x ∈ xs, (10 : UInt8) ∉ x) → linesFrom (pre ++ (catN xs ++ t)) pre.length = pcs pre.length xs ++ linesFrom (pre ++ (catN xs ++ t)) (pre.length + (catN xs).length) := by
  induction xs with
  | nil => intro pre t _; simp [catN, pcs]
  | cons x xs ih =>
    intro pre t h
    have e1 : pre ++ (catN (x :: xs) ++ t) = pre ++ (x ++ 10 :: (catN xs ++ t)) := by simp [catN_cons]
    have e2 : pre ++ (x ++ 10 :: (catN xs ++ t)) = (pre ++ (x ++ [10])) ++ (catN xs ++ t) := by simp
    rw [e1, lf_here2 (h x (by simp))]
    have h2 := ih (pre ++ (x ++ [10])) t (fun y hy => h y (by simp [hy]))
    rw [← e2] at h2
    have e3 : (pre ++ (x ++ [10])).length = pre.length + x.length + 1 := by simp; omega
    rw [e3] at h2
    rw [h2]
    show _ :: (pcs _ xs ++ _) = (_ :: pcs _ xs) ++ _
    rw [List.cons_append, catN_cons]
    congr 3
    simp only [List.length_append, List.length_cons, List.length_nil]
    omega
theorem pcs_text (xs : List (List UInt8)) : ∀ (pre t : List UInt8) (j : Nat) (h : j < xs.length) (h' : j < (pcs pre.length xs).length), ((pre ++ (catN xs ++ t)).drop (pcs pre.length xs)[j].1).take ((pcs pre.length xs)[j].2 - (pcs pre.length xs)[j].1) = xs[j] := by
  induction xs with
  | nil => intro pre t j h; simp at h
  | cons x xs ih =>
    intro pre t j h h'
    cases j with
    | zero =>
      show ((pre ++ (catN (x :: xs) ++ t)).drop pre.length).take (pre.length + x.length - pre.length) = x
      rw [List.drop_left, catN_cons, show pre.length + x.length - pre.length = x.length by omega]
      simp
    | succ j =>
      have h2 := ih (pre ++ (x ++ [10])) t j (by simpa using h) (by rw [pcs_len]; simpa using h)
      have e2 : pre ++ (catN (x :: xs) ++ t) = (pre ++ (x ++ [10])) ++ (catN xs ++ t) := by simp [catN_cons]
      have e3 : (pre ++ (x ++ [10])).length = pre.length + x.length + 1 := by simp; omega
      rw [e2]
      simp only [e3] at h2
      exact h2
/-- the lines of what was joined are what was joined -/
def Joined (l : List UInt8) (xs : List (List UInt8)) : Prop := (linesFrom l 0).length = xs.length ∧ ∀ (j : Nat) (h : j < xs.length) (h' : j < (linesFrom l 0).length), (l.drop (linesFrom l 0)[j].1).take ((linesFrom l 0)[j].2 - (linesFrom l 0)[j].1) = xs[j]
theorem joined_closed (xs : List (List UInt8)) (h : ∀ x ∈ xs, (10 : UInt8) ∉ x) : Joined (catN xs) xs := by
  have h1 := lf_cat xs [] [] h
  simp only [List.nil_append, List.append_nil, List.length_nil, Nat.zero_add] at h1
  rw [lf_nil (l := catN xs) (a := (catN xs).length) (by omega), List.append_nil] at h1
  have h2 := pcs_text xs [] []
  simp only [List.nil_append, List.append_nil, List.length_nil] at h2
  unfold Joined
  rw [h1]
  exact ⟨pcs_len _ _, fun j hj h' => h2 j hj h'⟩
theorem joined_open (xs : List (List UInt8)) (y : List UInt8) (h : ∀ x ∈ xs, (10 : UInt8) ∉ x) (hy : (10 : UInt8) ∉ y) (h0 : y ≠ []) : Joined (catN xs ++ y) (xs ++ [y]) := by
  have h1 := lf_cat xs [] y h
  simp only [List.nil_append, List.length_nil, Nat.zero_add] at h1
  have hyl : 0 < y.length := List.length_pos_iff.2 h0
  have e : lnLen ((catN xs ++ y).drop (catN xs).length) = y.length := by
    rw [List.drop_left]
    exact ln_eq _ (Nat.le_refl _) (fun k _ e => hy (List.mem_of_getElem? e)) (fun h => absurd h (Nat.lt_irrefl _))
  have h3 : linesFrom (catN xs ++ y) (catN xs).length = [((catN xs).length, (catN xs).length + y.length)] := by
    have h4 := lf_cons (l := catN xs ++ y) (a := (catN xs).length) (by simp; omega)
    rw [e, lf_nil (a := (catN xs).length + y.length + 1) (by simp)] at h4
    exact h4
  rw [h3] at h1
  unfold Joined
  rw [h1]
  refine ⟨by rw [List.length_append, pcs_len, List.length_append]; rfl, fun j hj h' => ?_⟩
  rcases Nat.lt_or_ge j xs.length with hlt | hge
  · have h2 := pcs_text xs [] y j hlt (by rw [pcs_len]; exact hlt)
    simp only [List.nil_append, List.length_nil] at h2
    rw [List.getElem_append_left (by rw [pcs_len]; exact hlt), List.getElem_append_left hlt]
    exact h2
  · obtain rfl : j = xs.length := by simp at hj; omega
    rw [List.getElem_append_right (by rw [pcs_len]; exact Nat.le_refl _), List.getElem_append_right (Nat.le_refl _)]
    simp [pcs_len]
/-- how many records a split has -/
theorem rec_count (l : List UInt8) (c d : Int) : (recL l c d).length = aheadL l d - aheadL l c := by
  have hle := recL_le l c d
  have hA : aheadL l d ≤ (linesFrom l 0).length := (List.takeWhile_sublist _).length_le
  rcases Nat.lt_trichotomy (recL l c d).length (aheadL l d - aheadL l c) with h | h | h
  · exfalso
    have hi : aheadL l c + (recL l c d).length < (linesFrom l 0).length := by omega
    have h1 := (rise_take lf_rise d _ hi).2 (by show _ < aheadL l d; omega)
    have h2 := (((recL_at l c d _ hi).2 (by omega)).1).1 h1
    omega
  · exact h
  · exfalso
    have hi : aheadL l c + (aheadL l d - aheadL l c) < (linesFrom l 0).length := by omega
    have h1 := (((recL_at l c d _ hi).2 (by omega)).1).2 (by omega)
    have h2 : _ < aheadL l d := (rise_take lf_rise d _ hi).1 h1
    omega
theorem ahead_mono (l : List UInt8) {c d : Int} (h : c ≤ d) : aheadL l c ≤ aheadL l d := by
  rcases Nat.lt_or_ge (aheadL l d) (aheadL l c) with h1 | h1
  · exfalso
    have hA : aheadL l c ≤ (linesFrom l 0).length := (List.takeWhile_sublist _).length_le
    have hi : aheadL l d < (linesFrom l 0).length := by omega
    have h2 := (rise_take lf_rise c _ hi).2 h1
    have h3 : _ < aheadL l d := (rise_take lf_rise d _ hi).1 (by omega)
    omega
  · exact h1
theorem ahead_zero (l : List UInt8) : aheadL l 0 = 0 := by
  rcases Nat.eq_zero_or_pos (aheadL l 0) with h | h
  · exact h
  · exfalso
    have hA : aheadL l 0 ≤ (linesFrom l 0).length := (List.takeWhile_sublist _).length_le
    have h2 := (rise_take (L := linesFrom l 0) lf_rise 0 0 (by omega)).2 h
    omega
theorem ahead_all (l : List UInt8) : aheadL l (l.length : Int) = (linesFrom l 0).length := by
  have hA : aheadL l (l.length : Int) ≤ (linesFrom l 0).length := (List.takeWhile_sublist _).length_le
  rcases Nat.lt_or_ge (aheadL l (l.length : Int)) (linesFrom l 0).length with h | h
  · exfalso
    have h1 := (lf_end (l := l) (a := 0) _ (List.getElem_mem h)).2.2
    have h2 : _ < aheadL l (l.length : Int) := (rise_take lf_rise (l.length : Int) _ h).1 (by omega)
    omega
  · omega
end Go.Proofs.Ytijefbpgpehmfaa

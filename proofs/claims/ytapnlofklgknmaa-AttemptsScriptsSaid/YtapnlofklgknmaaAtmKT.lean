/- Package attempts: what is ready, and who has won; numbers alone. -/
import Derived.Test.YtapnlofklgknmaaAtmInv
namespace Go.Proofs.Ytapnlofklgknmaa
open Go.RowKit

theorem opn_none (T : Nat → Tk) (a : Nat) : ∀ k, opn T a k = 0 → ∀ j, j < k → (T (a + j)).wi ≠ 0
  | 0, _, j, hj => absurd hj (Nat.not_lt_zero _)
  | k + 1, h, j, hj => by
    rw [opn_succ] at h
    by_cases e : j = k
    · subst e
      intro h0
      rw [if_pos h0] at h
      omega
    · exact opn_none T a k (by omega) j (by omega)
theorem mayR_of {b : Bd} {hs : Nat → Value} {r : Nat} (h : mayR (rawB hs b) (r : Int) = true) : r < b.n ∧ (b.T r).wi = 0 ∧ (r < b.m ∨ b.om = 0) := by
  unfold mayR at h
  rw [Bool.and_eq_true, Bool.and_eq_true, Bool.or_eq_true] at h
  obtain ⟨⟨h1, h2⟩, h3⟩ := h
  have h1 := of_decide_eq_true h1
  have h1 : 0 ≤ (r : Int) ∧ (r : Int) < (b.n : Int) := h1
  rw [Int.toNat_natCast] at h2
  have h2 : (((b.T r).wi : Int) == 0) = true := h2
  have h2 := eq_of_beq h2
  refine ⟨by omega, by omega, ?_⟩
  rcases h3 with h3 | h3
  · have h3 : (r : Int) < (b.m : Int) := of_decide_eq_true h3
    exact .inl (by omega)
  · have h3 : ((b.om : Int) == 0) = true := h3
    have h3 := eq_of_beq h3
    exact .inr (by omega)
theorem thK_mem {P : Nat → Bool} {k r : Nat} (h : r ∈ thK P k) : r < k ∧ P r = true := by
  have := List.mem_filter.1 h
  exact ⟨List.mem_range.1 this.1, this.2⟩
theorem ready_mem {b : Bd} {nd now : Int} {r : Nat} (h : r ∈ readyB b nd now) : r < b.n ∧ (b.T r).wi = 0 ∧ (r < b.m ∨ b.om = 0) := by
  unfold readyB at h
  split at h
  · cases h
  · split at h
    · have := thK_mem h
      simp only [Bool.and_eq_true] at this
      exact mayR_of this.2.1
    · have := thK_mem h
      simp only [Bool.and_eq_true] at this
      exact mayR_of this.2.1
theorem thK_len (P : Nat → Bool) (k : Nat) : (thK P k).length ≤ k := Nat.le_trans (List.length_filter_le _ _) (by simp)
theorem ready_len (b : Bd) (nd now : Int) : (readyB b nd now).length ≤ b.n := by
  unfold readyB
  split
  · exact Nat.zero_le _
  · split <;> exact thK_len _ _
theorem winA_yes {b : Bd} {t : Nat} (hin : inB b (t : Int) = true) (h0 : (b.T t).wi ≠ 0) : ∃ nd, winA b (t : Int) = (nd, ((b.T t).wi : Int), true) := by
  unfold winA
  rw [hin, Int.toNat_natCast, if_pos (by simp [h0])]
  exact ⟨_, rfl⟩
end Go.Proofs.Ytapnlofklgknmaa

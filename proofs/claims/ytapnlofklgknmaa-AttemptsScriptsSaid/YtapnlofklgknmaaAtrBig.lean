/- What a new board says is ready is never more than 4096 tasks. -/
import Derived.Test.YtapnlofklgknmaaAtmKT
import Derived.Test.YtapnlofklgknmaaAtmNew
namespace Go.Proofs.Ytapnlofklgknmaa
open Go.RowKit
theorem thK_below {P : Nat → Bool} {m : Nat} : ∀ k, (∀ r ∈ thK P k, r < m) → (thK P k).length ≤ m
  | 0, _ => Nat.zero_le _
  | k + 1, h => by
    have e : thK P (k + 1) = thK P k ++ (if P k then [k] else []) := by
      unfold thK
      rw [List.range_succ, List.filter_append]
      cases hk : P k <;> simp [hk]
    rw [e] at h ⊢
    cases hp : P k with
    | false =>
      rw [hp] at h
      simpa using thK_below k fun r hr => h r (by simpa using hr)
    | true =>
      have hk : k < m := h k (by simp [hp])
      have := thK_len P k
      simp
      omega
theorem ready_new (ma re : Int) (nd now : Int) : (readyB (newB ma re 1 1) nd now).length ≤ 4096 := by
  have hm := cnt_b ma
  have hr := cnt_b re
  by_cases h0 : (newB ma re 1 1).m = 0
  · have := ready_len (newB ma re 1 1) nd now
    have e : (newB ma re 1 1).n = cnt ma + cnt re := rfl
    have e2 : (newB ma re 1 1).m = cnt ma := rfl
    omega
  · have hlt : ∀ r ∈ readyB (newB ma re 1 1) nd now, r < cnt ma := fun r hr => by
      rcases (ready_mem hr).2.2 with h | h
      · exact h
      · exact absurd ((opn_new 0 (newB ma re 1 1).m).symm.trans h) h0
    refine Nat.le_trans ?_ hm
    revert hlt
    unfold readyB
    split
    · intro _; exact Nat.zero_le _
    · split <;> exact thK_below _
end Go.Proofs.Ytapnlofklgknmaa

/- Heaps over numbers: going up, going down. No program. -/
import Derived.Test.YtcgilgihmapipaaMrgMath
namespace Go.Proofs.Ytcgilgihmapipaa

def par (i : Nat) : Nat := (i - 1) / 2
/-- an exchange -/
def swO (o : Nat → Int) (a b : Nat) : Nat → Int := fun i => if i = a then o b else if i = b then o a else o i
def HeapO (n : Nat) (o : Nat → Int) : Prop := ∀ i, 0 < i → i < n → o (par i) ≤ o i
/-- a heap but for the item at a place, which may be too low -/
def UpO (n : Nat) (o : Nat → Int) (a : Nat) : Prop :=
  (∀ i, 0 < i → i < n → i ≠ a → o (par i) ≤ o i) ∧ (∀ i, 0 < i → i < n → par i = a → 0 < a → o (par a) ≤ o i)
/-- a heap but for the item at a place, which may be too high -/
def DownO (n : Nat) (o : Nat → Int) (a : Nat) : Prop :=
  (∀ i, 0 < i → i < n → par i ≠ a → o (par i) ≤ o i) ∧ (∀ i, 0 < i → i < n → par i = a → 0 < a → o (par a) ≤ o i)
theorem par_lt {i : Nat} (h : 0 < i) : par i < i := by unfold par; omega
theorem up_end {n a : Nat} {o : Nat → Int} (h : UpO n o a) (he : a = 0 ∨ ¬ o a < o (par a)) : HeapO n o := by
  intro i h0 hn
  by_cases e : i = a
  · subst e
    rcases he with he | he
    · omega
    · omega
  · exact h.1 i h0 hn e
theorem up_step {n a : Nat} {o : Nat → Int} (h : UpO n o a) (h0 : 0 < a) (ha : a < n) (hl : o a < o (par a)) : UpO n (swO o a (par a)) (par a) := by
  obtain ⟨h1, h2⟩ := h
  have hp := par_lt h0
  have hsa : swO o a (par a) a = o (par a) := by simp [swO]
  have hsp : swO o a (par a) (par a) = o a := by unfold swO; rw [if_neg (by omega), if_pos rfl]
  have hso : ∀ i, i ≠ a → i ≠ par a → swO o a (par a) i = o i := fun i e1 e2 => by unfold swO; rw [if_neg e1, if_neg e2]
  refine ⟨fun i k0 kn ki => ?_, fun i k0 kn ki kp => ?_⟩
  · have kp := par_lt k0
    by_cases e1 : i = a
    · subst e1
      rw [hsa, hsp]; omega
    · rw [hso i e1 ki]
      by_cases e2 : par i = a
      · rw [e2, hsa]
        exact h2 i k0 kn e2 h0
      · by_cases e3 : par i = par a
        · rw [e3, hsp]
          have := h1 i k0 kn e1
          rw [e3] at this
          omega
        · rw [hso _ e2 e3]
          exact h1 i k0 kn e1
  · have kpp := par_lt kp
    have e5 : swO o a (par a) (par (par a)) = o (par (par a)) := hso _ (by omega) (by omega)
    rw [e5]
    have h5 : o (par (par a)) ≤ o (par a) := h1 (par a) kp (by omega) (by omega)
    by_cases e1 : i = a
    · subst e1
      rw [hsa]; exact h5
    · have k1 := par_lt k0
      rw [hso i e1 (by omega)]
      have := h1 i k0 kn e1
      rw [ki] at this
      omega
theorem down_end {n a : Nat} {o : Nat → Int} (h : DownO n o a) (he : ∀ i, 0 < i → i < n → par i = a → o a ≤ o i) : HeapO n o := by
  intro i h0 hn
  by_cases e : par i = a
  · rw [e]; exact he i h0 hn e
  · exact h.1 i h0 hn e
theorem down_step {n a b : Nat} {o : Nat → Int} (h : DownO n o a) (hb0 : 0 < b) (hbn : b < n) (hpb : par b = a) (hl : o b < o a) (hmin : ∀ i, 0 < i → i < n → par i = a → o b ≤ o i) : DownO n (swO o a b) b := by
  obtain ⟨h1, h2⟩ := h
  have hp := par_lt hb0
  have hab : a < b := by omega
  have hsa : swO o a b a = o b := by simp [swO]
  have hsb : swO o a b b = o a := by unfold swO; rw [if_neg (by omega), if_pos rfl]
  have hso : ∀ i, i ≠ a → i ≠ b → swO o a b i = o i := fun i e1 e2 => by unfold swO; rw [if_neg e1, if_neg e2]
  refine ⟨fun i k0 kn ki => ?_, fun i k0 kn ki kp => ?_⟩
  · have kp := par_lt k0
    by_cases e1 : i = a
    · subst e1
      rw [hsa, hso _ (by omega) (by omega)]
      have := h2 b hb0 hbn hpb (by omega)
      exact this
    · by_cases e2 : i = b
      · subst e2
        rw [hsb, hpb, hsa]; omega
      · rw [hso i e1 e2]
        by_cases e3 : par i = a
        · rw [e3, hsa]
          exact hmin i k0 kn e3
        · rw [hso _ e3 ki]
          exact h1 i k0 kn e3
  · have k1 := par_lt k0
    rw [hpb, hsa, hso i (by omega) (by omega)]
    have := h1 i k0 kn (by omega)
    rw [ki] at this
    exact this
theorem heap_top {n : Nat} {o : Nat → Int} (h : HeapO n o) : ∀ i, i < n → o 0 ≤ o i := by
  intro i
  induction i using Nat.strongRecOn with
  | _ i ih =>
    intro hi
    rcases Nat.eq_zero_or_pos i with e | e
    · rw [e]; exact Int.le_refl _
    · have := ih (par i) (par_lt e) (by have := par_lt e; omega)
      have h2 := h i e hi
      omega
end Go.Proofs.Ytcgilgihmapipaa

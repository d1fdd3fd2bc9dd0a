/- What Pick and Far come to: numbers alone. -/
import Derived.Test.YtilobnplmkmmpaaPlnIn
namespace Go.Proofs.Ytilobnplmkmmpaa
open Go.RowKit

theorem nearB_iff (a b : Int) : nearB a b = true ↔ (¬ a = -1 ∧ (b = -1 ∨ a < b)) := by simp [nearB]
theorem distO_lo (p q : Option (Int × Int)) : -1 ≤ distO p q := by
  cases p with
  | none => exact Int.le_refl _
  | some x => cases q with
    | none => exact Int.le_refl _
    | some y => have := sq_lo x y; show -1 ≤ sq x y; omega
theorem farN_lo {D : Nat → Int} (h : ∀ j, -1 ≤ D j) : ∀ n, -1 ≤ farN D n
  | 0 => Int.le_refl _
  | n + 1 => by
    show -1 ≤ if _ then _ else _
    split
    · exact h n
    · exact farN_lo h n
theorem farN_zero {D : Nat → Int} (h : ∀ j, -1 ≤ D j) : ∀ n, (∃ j, j < n ∧ D j = 0) → farN D n = 0
  | 0, ⟨j, hj, _⟩ => absurd hj (Nat.not_lt_zero _)
  | n + 1, ⟨j, hj, hd⟩ => by
    have hn := h n
    have hf := farN_lo h n
    by_cases e : j = n
    · subst e
      by_cases hb : nearB (D j) (farN D j) = true
      · rw [farN_yes hb, hd]
      · have hb' : nearB (D j) (farN D j) = false := by simpa using hb
        rw [farN_no hb']
        rw [nearB_iff] at hb
        omega
    · have ih := farN_zero h n ⟨j, by omega, hd⟩
      have hb' : nearB (D n) (farN D n) = false := by
        cases hc : nearB (D n) (farN D n) with
        | false => rfl
        | true => rw [nearB_iff] at hc; omega
      rw [farN_no hb', ih]
theorem tsk_far_lo (t : Tsk) (a b : Nat) : -1 ≤ t.far a b := farN_lo (fun _ => distO_lo _ _) _
theorem pckN_pos (F : Nat → Int) : ∀ n, 0 < n → ∃ m, m < n ∧ pckN F n = ((m : Int), F m)
  | n + 1, _ => by
    by_cases h : (pckN F n).1 = -1 ∨ nearB (F n) (pckN F n).2 = true
    · exact ⟨n, by omega, pckN_yes rfl rfl h⟩
    · have h1 : ¬ (pckN F n).1 = -1 := fun e => h (.inl e)
      have h2 : nearB (F n) (pckN F n).2 = false := by
        cases hc : nearB (F n) (pckN F n).2 with
        | false => rfl
        | true => exact absurd (.inr hc) h
      have e := pckN_no rfl rfl h1 h2
      by_cases h0 : n = 0
      · subst h0; exact absurd rfl h1
      · obtain ⟨m, hm, k⟩ := pckN_pos F n (by omega)
        exact ⟨m, by omega, by rw [e]; exact k⟩
/-- what is picked is no farther than any other -/
theorem pckN_least (F : Nat → Int) : ∀ (n m : Nat), pckN F n = ((m : Int), F m) → ∀ i, i < n → F i = -1 ∨ (¬ F m = -1 ∧ F m ≤ F i)
  | n + 1, m, hp, i, hi => by
    have hstep : ∀ i, i < n → F i = -1 ∨ (¬ (pckN F n).2 = -1 ∧ (pckN F n).2 ≤ F i) := fun i hi => by
      obtain ⟨m', _, k⟩ := pckN_pos F n (by omega)
      have := pckN_least F n m' k i hi
      rw [k]
      exact this
    have hinv : (pckN F n).1 = -1 → n = 0 := fun e => by
      by_cases h0 : n = 0
      · exact h0
      · obtain ⟨m', _, k⟩ := pckN_pos F n (by omega)
        rw [k] at e
        simp at e
    by_cases h : (pckN F n).1 = -1 ∨ nearB (F n) (pckN F n).2 = true
    · rw [pckN_yes rfl rfl h] at hp
      simp only [Prod.mk.injEq] at hp
      rw [← hp.2]
      by_cases e : i = n
      · subst e; omega
      · rcases h with h | h
        · have := hinv h; omega
        · rw [nearB_iff] at h
          rcases hstep i (by omega) with k | k
          · exact .inl k
          · exact .inr ⟨h.1, by omega⟩
    · have h1 : ¬ (pckN F n).1 = -1 := fun e => h (.inl e)
      have h2 : nearB (F n) (pckN F n).2 = false := by
        cases hc : nearB (F n) (pckN F n).2 with
        | false => rfl
        | true => exact absurd (.inr hc) h
      rw [pckN_no rfl rfl h1 h2] at hp
      simp only [Prod.mk.injEq] at hp
      rw [← hp.2]
      by_cases e : i = n
      · subst e
        by_cases e1 : F i = -1
        · exact .inl e1
        · have : ¬ (nearB (F i) (pckN F i).2 = true) := by simp [h2]
          rw [nearB_iff] at this
          exact .inr ⟨by omega, by omega⟩
      · exact hstep i (by omega)
theorem pckN_none (F : Nat → Int) : ∀ n, (∀ i, i < n + 1 → F i = -1) → pckN F (n + 1) = (0, -1)
  | 0, h => by rw [pckN_yes rfl rfl (.inl rfl), h 0 (by omega)]; rfl
  | n + 1, h => by
    have ih := pckN_none F n fun i hi => h i (by omega)
    rw [pckN_no (b := 0) (l := -1) (by rw [ih]) (by rw [ih]) (by decide) (by rw [h (n + 1) (by omega)]; decide)]
end Go.Proofs.Ytilobnplmkmmpaa

/- Who takes which task: what is left and what is taken; numbers alone. -/
import Derived.Test.YtahkelgcamcfmaaPlnShare
namespace Go.Proofs.Ytahkelgcamcfmaa
open Go.RowKit

theorem lft_nodup (F : Nat → Nat → Int) (n : Nat) : ∀ k, (lft F n k).Nodup
  | 0 => List.nodup_range
  | k + 1 => (lft_nodup F n k).sublist (List.eraseIdx_sublist _ _)
/-- is a task taken by one of the first k workers? -/
def tkB (F : Nat → Nat → Int) (n k i : Nat) : Bool := !(lft F n k).contains i
theorem tkB_no (F : Nat → Nat → Int) (n k i : Nat) : tkB F n k i = false ↔ i ∈ lft F n k := by simp [tkB]
theorem tkB_zero (F : Nat → Nat → Int) (n i : Nat) (h : i < n) : tkB F n 0 i = false := by rw [tkB_no]; simpa [lft] using h
/-- what worker k takes where something is left -/
theorem got_some (F : Nat → Nat → Int) (n k : Nat) (h : lft F n k ≠ []) : ∃ x : Nat, gotN F n k = (x : Int) ∧ x < n ∧ x ∈ lft F n k ∧ (∀ i, i ∈ lft F n k → F k i = -1 ∨ (¬ F k x = -1 ∧ F k x ≤ F k i)) ∧ (∀ i, tkB F n (k + 1) i = (tkB F n k i || decide (i = x))) ∧ (lft F n (k + 1)).length + 1 = (lft F n k).length := by
  obtain ⟨L, hL⟩ : ∃ L, L = lft F n k := ⟨_, rfl⟩
  have hnd : L.Nodup := by rw [hL]; exact lft_nodup F n k
  have hn : lft F n (k + 1) = L.eraseIdx (pkN (F k) L) := by rw [hL]; rfl
  have hg : gotN F n k = (L.getD (pkN (F k) L) 0 : Int) := by
    show (if _ then _ else _) = _
    rw [if_neg h, hL]
  have hm : ∀ j, j ∈ L → j < n := fun j hj => lft_mem F n k j (by rw [← hL]; exact hj)
  rw [← hL] at h ⊢
  obtain ⟨hp, hq⟩ := pk_some (F k) L h
  obtain ⟨q, hqe⟩ : ∃ q, q = pkN (F k) L := ⟨_, rfl⟩
  rw [← hqe] at hp hq hg hn
  have hx : L.getD q 0 = L[q] := by rw [List.getD_eq_getElem?_getD, List.getElem?_eq_getElem hq]; rfl
  have hxm : L[q] ∈ L := List.getElem_mem hq
  refine ⟨L[q], by rw [hg, hx], hm _ hxm, hxm, fun i hi => ?_, fun i => ?_, ?_⟩
  · obtain ⟨r, hr, rfl⟩ := List.getElem_of_mem hi
    obtain ⟨m', hm', e⟩ := pckN_pos (fun q => F k (L.getD q 0)) L.length (List.length_pos_iff.2 h)
    have e1 : m' = q := by
      have e2 : pkI (F k) L = (m' : Int) := by unfold pkI; rw [e]
      rw [hp] at e2
      omega
    subst e1
    have hl := pckN_least _ _ _ e r hr
    simp only [hx] at hl
    rwa [show L.getD r 0 = L[r] by rw [List.getD_eq_getElem?_getD, List.getElem?_eq_getElem hr]; rfl] at hl
  · unfold tkB
    rw [hn, ← hL]
    by_cases e : i = L[q]
    · have : i ∉ L.eraseIdx q := by
        rw [e, List.mem_eraseIdx_iff_getElem]
        rintro ⟨r, hr, hne, he⟩
        exact hne ((List.getElem_inj hnd).1 he)
      rw [e] at this ⊢
      simp [this]
    · have : (i ∈ L.eraseIdx q) ↔ i ∈ L := ⟨fun h => List.mem_of_mem_eraseIdx h, fun h => by
        rw [List.mem_eraseIdx_iff_getElem]
        obtain ⟨r, hr, rfl⟩ := List.getElem_of_mem h
        exact ⟨r, hr, fun e2 => e (by subst e2; rfl), rfl⟩⟩
      simp [e, this]
  · rw [hn, List.length_eraseIdx, if_pos hq]; omega
theorem got_none (F : Nat → Nat → Int) (n k : Nat) (h : lft F n k = []) : gotN F n k = -1 ∧ lft F n (k + 1) = [] := by
  refine ⟨by show (if _ then _ else _) = _; rw [if_pos h], ?_⟩
  show (lft F n k).eraseIdx _ = []
  rw [h]; rfl
def tkL' (F : Nat → Nat → Int) (n k : Nat) : List Value := (List.range n).map fun i => .bool (tkB F n k i)
theorem tkL'_at (F : Nat → Nat → Int) (n k i : Nat) (h : i < n) : (tkL' F n k)[i]? = some (.bool (tkB F n k i)) := by unfold tkL'; rw [List.getElem?_map, List.getElem?_range h]; rfl
theorem tkL'_zero (F : Nat → Nat → Int) (n : Nat) : tkL' F n 0 = List.replicate n (.bool false) := by
  refine List.ext_getElem? fun i => ?_
  by_cases h : i < n
  · rw [tkL'_at F n 0 i h, tkB_zero F n i h, List.getElem?_replicate, if_pos h]
  · rw [List.getElem?_eq_none (by simp [tkL']; omega), List.getElem?_eq_none (by simp; omega)]
theorem tkL'_set (F : Nat → Nat → Int) (n k x : Nat) (h : ∀ i, tkB F n (k + 1) i = (tkB F n k i || decide (i = x))) : (tkL' F n k).set x (.bool true) = tkL' F n (k + 1) := by
  refine List.ext_getElem? fun i => ?_
  by_cases hi : i < n
  · rw [tkL'_at F n (k + 1) i hi, h i, List.getElem?_set]
    by_cases e : x = i
    · subst e
      rw [if_pos rfl, if_pos (by simpa [tkL'] using hi)]
      simp
    · rw [if_neg e, tkL'_at F n k i hi]
      simp [show ¬ i = x from fun e' => e e'.symm]
  · rw [List.getElem?_eq_none (by simp [tkL']; omega), List.getElem?_eq_none (by simp [tkL']; omega)]
theorem tkL'_same (F : Nat → Nat → Int) (n k : Nat) (h : lft F n k = []) : tkL' F n (k + 1) = tkL' F n k := by
  unfold tkL' tkB
  rw [(got_none F n k h).2, h]
end Go.Proofs.Ytahkelgcamcfmaa

/- Merging: a list in the order by key and place is the one list of its elements in that order. No program. -/
import Derived.Test.YtmpeaondljpgiaaMrgSort
namespace Go.Proofs.Ytmpeaondljpgiaa
open Go.RowKit

theorem srt_one {α : Type} {key : α → Int} {num : α → Nat} : ∀ {S T : List α}, S.Perm T → SrtT key num S → SrtT key num T → S = T
  | [], T, hp, _, _ => (List.nil_perm.1 hp).symm
  | x :: S, [], hp, _, _ => absurd hp.length_eq (by simp)
  | x :: S, t :: T, hp, hS, hT => by
    have hS := List.pairwise_cons.1 hS
    have hT := List.pairwise_cons.1 hT
    have e : x = t := by
      rcases List.mem_cons.1 (hp.mem_iff.1 (List.mem_cons_self (a := x) (l := S))) with e | h1
      · exact e
      · rcases List.mem_cons.1 (hp.symm.mem_iff.1 (List.mem_cons_self (a := t) (l := T))) with e | h2
        · exact e.symm
        · have a := hT.1 x h1
          have b := hS.1 t h2
          unfold Tl at a b
          omega
    subst e
    rw [srt_one hp.cons_inv hS.2 hT.2]
theorem sum_zero : ∀ {l : List Nat}, (∀ y ∈ l, y = 0) → l.sum = 0
  | [], _ => rfl
  | x :: l, h => by
    rw [List.sum_cons, h x (List.mem_cons_self ..), sum_zero fun y hy => h y (List.mem_cons_of_mem _ hy)]
/-- all the runs' pairs come out -/
theorem mrg_full {R : Rn} {ord : It → Int} (hO : OrdInj R ord) : ∀ (k : Nat) (pos : Nat → Nat), tot R pos = k → (∀ i, i < R.n → pos i ≤ R.ln i) → (mrg R ord k pos).length = k
  | 0, _, _, _ => rfl
  | k + 1, pos, h, hle => by
    have hex : ∃ i, BestI R ord pos i := by
      by_cases hn : ∃ i, i < R.n ∧ pos i < R.ln i
      · have key : ∀ m, m ≤ R.n → (∃ i, i < m ∧ pos i < R.ln i) → ∃ i, i < m ∧ pos i < R.ln i ∧ ∀ j, j < m → pos j < R.ln j → ord (i, pos i) ≤ ord (j, pos j) := by
          intro m
          induction m with
          | zero => intro _ ⟨i, hi, _⟩; omega
          | succ m ih =>
            intro hm ⟨i, hi, hp⟩
            by_cases hx : ∃ i, i < m ∧ pos i < R.ln i
            · obtain ⟨a, h1, h2, h3⟩ := ih (by omega) hx
              by_cases hpm : pos m < R.ln m
              · by_cases hc : ord (a, pos a) ≤ ord (m, pos m)
                · refine ⟨a, by omega, h2, fun j hj hl => ?_⟩
                  by_cases e : j = m
                  · subst e; exact hc
                  · exact h3 j (by omega) hl
                · refine ⟨m, by omega, hpm, fun j hj hl => ?_⟩
                  by_cases e : j = m
                  · subst e; exact Int.le_refl _
                  · have := h3 j (by omega) hl
                    omega
              · refine ⟨a, by omega, h2, fun j hj hl => ?_⟩
                by_cases e : j = m
                · subst e; exact absurd hl hpm
                · exact h3 j (by omega) hl
            · have ei : i = m := by
                by_cases e : i = m
                · exact e
                · exact absurd ⟨i, by omega, hp⟩ hx
              subst ei
              refine ⟨i, by omega, hp, fun j hj hl => ?_⟩
              by_cases e : j = i
              · subst e; exact Int.le_refl _
              · exact absurd ⟨j, by omega, hl⟩ hx
        obtain ⟨i, h1, h2, h3⟩ := key R.n (Nat.le_refl _) hn
        exact ⟨i, h1, h2, h3⟩
      · have h0 : tot R pos = 0 := by
          unfold tot
          exact sum_zero fun y hy => by
            obtain ⟨i, hi, rfl⟩ := List.mem_map.1 hy
            have : ¬ pos i < R.ln i := fun hp => hn ⟨i, List.mem_range.1 hi, hp⟩
            omega
        omega
    have hs := hex.choose_spec
    have ht := tot_bump hs.1 hs.2.1
    have ih := mrg_full hO k (bump pos hex.choose) (by omega) (fun j hj => by
      by_cases e : j = hex.choose
      · rw [e, bump_same]; exact hs.2.1
      · rw [bump_other pos e]; exact hle j hj)
    rw [mrg, dif_pos hex, List.length_cons, ih]
/-- what is left behind some pairs -/
def rowP (R : Rn) (pos : Nat → Nat) (i : Nat) : List It := (List.range (R.ln i - pos i)).map fun q => (i, pos i + q)
def remP (R : Rn) (pos : Nat → Nat) : List It := (List.range R.n).flatMap (rowP R pos)
theorem flat_congr {α β : Type} {f g : α → List β} : ∀ {l : List α}, (∀ a ∈ l, f a = g a) → l.flatMap f = l.flatMap g
  | [], _ => rfl
  | x :: l, h => by
    rw [List.flatMap_cons, List.flatMap_cons, h x (List.mem_cons_self ..), flat_congr fun y hy => h y (List.mem_cons_of_mem _ hy)]
theorem row_bump {R : Rn} {pos : Nat → Nat} {i : Nat} (hp : pos i < R.ln i) : rowP R pos i = (i, pos i) :: rowP R (bump pos i) i := by
  unfold rowP
  rw [bump_same, show R.ln i - pos i = (R.ln i - (pos i + 1)) + 1 by omega, List.range_succ_eq_map, List.map_cons, List.map_map]
  congr 1
  refine List.map_congr_left fun q _ => ?_
  simp only [Function.comp]
  congr 1
  omega
theorem rem_bump {R : Rn} {pos : Nat → Nat} {i : Nat} (hi : i < R.n) (hp : pos i < R.ln i) : (remP R pos).Perm ((i, pos i) :: remP R (bump pos i)) := by
  unfold remP
  have eA : ∀ L : List Nat, (∀ j ∈ L, j ≠ i) → L.flatMap (rowP R pos) = L.flatMap (rowP R (bump pos i)) := fun L hL => flat_congr fun j hj => by
    unfold rowP
    rw [bump_other pos (hL j hj)]
  rw [range_cut R.n i hi, List.flatMap_append, List.flatMap_append, List.flatMap_cons, List.flatMap_cons, row_bump hp, eA _ (fun j hj => by have := List.mem_range.1 hj; omega), eA _ (fun j hj => by
    obtain ⟨k, _, rfl⟩ := List.mem_map.1 hj
    omega)]
  exact List.perm_middle
theorem rem_none {R : Rn} {pos : Nat → Nat} (h : tot R pos = 0) : remP R pos = [] := by
  unfold remP
  have z : ∀ {l : List Nat} {f : Nat → Nat}, (l.map f).sum = 0 → ∀ y ∈ l, f y = 0 := by
    intro l
    induction l with
    | nil => intro f _ y hy; cases hy
    | cons x l ih =>
      intro f h y hy
      rw [List.map_cons, List.sum_cons] at h
      rcases List.mem_cons.1 hy with rfl | hy
      · omega
      · exact ih (by omega) y hy
  rw [flat_congr (g := fun _ => []) fun i hi => by
    have := z h i hi
    unfold rowP
    rw [this]
    rfl]
  simp
/-- the runs' pairs, each once: what a merge gives -/
theorem mrg_perm {R : Rn} {ord : It → Int} (hO : OrdInj R ord) : ∀ (k : Nat) (pos : Nat → Nat), tot R pos = k → (∀ i, i < R.n → pos i ≤ R.ln i) → (mrg R ord k pos).Perm (remP R pos)
  | 0, pos, h, _ => by rw [rem_none h]; exact List.Perm.refl _
  | k + 1, pos, h, hle => by
    have hl := mrg_full hO (k + 1) pos h hle
    rw [mrg] at hl ⊢
    by_cases hex : ∃ i, BestI R ord pos i
    · rw [dif_pos hex]
      have hs := hex.choose_spec
      have ht := tot_bump hs.1 hs.2.1
      refine List.Perm.trans ?_ (rem_bump hs.1 hs.2.1).symm
      exact (mrg_perm hO k (bump pos hex.choose) (by omega) (fun j hj => by
        by_cases e : j = hex.choose
        · rw [e, bump_same]; exact hs.2.1
        · rw [bump_other pos e]; exact hle j hj)).cons _
    · rw [dif_neg hex] at hl
      cases hl
theorem mrgL_perm {R : Rn} {ord : It → Int} (hO : OrdInj R ord) : (mrgL R ord).Perm (remP R fun _ => 0) := mrg_perm hO _ _ rfl fun _ _ => Nat.zero_le _
/-- where each run rises, what a merge gives rises; of one run the places rise -/
theorem mrg_rises {R : Rn} {ord : It → Int} (hO : OrdInj R ord) (hr : ∀ i, i < R.n → ∀ p q, p < q → q < R.ln i → ord (i, p) ≤ ord (i, q)) : ∀ (k : Nat) (pos : Nat → Nat), tot R pos = k → (∀ i, i < R.n → pos i ≤ R.ln i) →
    (mrg R ord k pos).Pairwise fun x y => ord x ≤ ord y ∧ (x.1 = y.1 → x.2 < y.2)
  | 0, _, _, _ => List.Pairwise.nil
  | k + 1, pos, h, hle => by
    rw [mrg]
    split
    · rename_i hex
      have hs := hex.choose_spec
      have ht := tot_bump hs.1 hs.2.1
      have hle2 : ∀ i, i < R.n → bump pos hex.choose i ≤ R.ln i := fun j hj => by
        by_cases e : j = hex.choose
        · rw [e, bump_same]; exact hs.2.1
        · rw [bump_other pos e]; exact hle j hj
      refine List.pairwise_cons.2 ⟨fun y hy => ?_, mrg_rises hO hr k (bump pos hex.choose) (by omega) hle2⟩
      have hm := (mrg_perm hO k (bump pos hex.choose) (by omega) hle2).mem_iff.1 hy
      obtain ⟨j, hj, hy2⟩ := List.mem_flatMap.1 hm
      obtain ⟨q, hq, rfl⟩ := List.mem_map.1 hy2
      have hj := List.mem_range.1 hj
      have hq := List.mem_range.1 hq
      by_cases e : j = hex.choose
      · subst e
        rw [bump_same] at hq ⊢
        exact ⟨hr _ hs.1 _ _ (by omega) (by omega), fun _ => by show pos _ < _; omega⟩
      · rw [bump_other pos e] at hq ⊢
        have h3 := hs.2.2 j hj (by omega)
        refine ⟨?_, fun e2 => absurd e2.symm e⟩
        rcases Nat.eq_zero_or_pos q with e0 | hq0
        · rw [e0]; exact h3
        · exact Int.le_trans h3 (hr j hj _ _ (by omega) (by omega))
    · exact List.Pairwise.nil
end Go.Proofs.Ytmpeaondljpgiaa

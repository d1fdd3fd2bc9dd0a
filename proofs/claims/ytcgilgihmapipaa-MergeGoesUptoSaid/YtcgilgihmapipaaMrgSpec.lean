/- Merging: what comes out, as a function of the runs; a heap's top is the next one. No program. -/
import Derived.Test.YtcgilgihmapipaaMrgRise
namespace Go.Proofs.Ytcgilgihmapipaa
open Go.RowKit

def OrdInj (R : Rn) (ord : It → Int) : Prop := ∀ x y, VIt R x → VIt R y → ord x = ord y → x.1 = y.1
/-- the run whose first pair is next -/
def BestI (R : Rn) (ord : It → Int) (pos : Nat → Nat) (i : Nat) : Prop := i < R.n ∧ pos i < R.ln i ∧ ∀ j, j < R.n → pos j < R.ln j → ord (i, pos i) ≤ ord (j, pos j)
theorem best_one {R : Rn} {ord : It → Int} (hO : OrdInj R ord) {pos : Nat → Nat} {i j : Nat} (hi : BestI R ord pos i) (hj : BestI R ord pos j) : i = j := by
  obtain ⟨h1, h2, h3⟩ := hi
  obtain ⟨k1, k2, k3⟩ := hj
  have a := h3 j k1 k2
  have b := k3 i h1 h2
  exact hO (i, pos i) (j, pos j) ⟨h1, h2⟩ ⟨k1, k2⟩ (by omega)
def bump (pos : Nat → Nat) (i : Nat) : Nat → Nat := fun j => if j = i then pos i + 1 else pos j
theorem bump_same (pos : Nat → Nat) (i : Nat) : bump pos i i = pos i + 1 := by simp [bump]
theorem bump_other (pos : Nat → Nat) {i j : Nat} (h : j ≠ i) : bump pos i j = pos j := by simp [bump, h]
open Classical in
/-- the pairs that come out, in their order: so many -/
noncomputable def mrg (R : Rn) (ord : It → Int) : Nat → (Nat → Nat) → List It
  | 0, _ => []
  | k + 1, pos => if h : ∃ i, BestI R ord pos i then (h.choose, pos h.choose) :: mrg R ord k (bump pos h.choose) else []
/-- how many pairs are left -/
def tot (R : Rn) (pos : Nat → Nat) : Nat := ((List.range R.n).map fun i => R.ln i - pos i).sum
noncomputable def mrgL (R : Rn) (ord : It → Int) : List It := mrg R ord (tot R fun _ => 0) fun _ => 0
theorem range_cut (n i : Nat) (h : i < n) : List.range n = List.range i ++ i :: (List.range (n - i - 1)).map (fun k => i + 1 + k) := by
  have e : n = (i + 1) + (n - i - 1) := by omega
  conv => lhs; rw [e, List.range_add, List.range_succ]
  simp
theorem tot_bump {R : Rn} {pos : Nat → Nat} {i : Nat} (hi : i < R.n) (hp : pos i < R.ln i) : tot R pos = tot R (bump pos i) + 1 := by
  unfold tot
  rw [range_cut R.n i hi, List.map_append, List.map_append, List.map_cons, List.map_cons, List.sum_append, List.sum_append, List.sum_cons, List.sum_cons, bump_same]
  have e1 : (List.range i).map (fun j => R.ln j - bump pos i j) = (List.range i).map (fun j => R.ln j - pos j) := List.map_congr_left (fun j hj => by rw [bump_other pos (by have := List.mem_range.1 hj; omega)])
  have e2 : ((List.range (R.n - i - 1)).map (fun k => i + 1 + k)).map (fun j => R.ln j - bump pos i j) = ((List.range (R.n - i - 1)).map (fun k => i + 1 + k)).map (fun j => R.ln j - pos j) := List.map_congr_left (fun j hj => by
    obtain ⟨k, _, rfl⟩ := List.mem_map.1 hj
    rw [bump_other pos (by omega)])
  rw [e1, e2]
  omega
theorem mrg_step {R : Rn} {ord : It → Int} (hO : OrdInj R ord) {pos : Nat → Nat} {i : Nat} (h : BestI R ord pos i) : mrg R ord (tot R pos) pos = (i, pos i) :: mrg R ord (tot R (bump pos i)) (bump pos i) := by
  rw [tot_bump h.1 h.2.1]
  have hex : ∃ i, BestI R ord pos i := ⟨i, h⟩
  have hc : hex.choose = i := best_one hO hex.choose_spec h
  rw [mrg, dif_pos hex, hc]
theorem mrg_end {R : Rn} {ord : It → Int} {pos : Nat → Nat} (h : ∀ i, i < R.n → ¬ pos i < R.ln i) (k : Nat) : mrg R ord k pos = [] := by
  cases k with
  | zero => rfl
  | succ k => rw [mrg, dif_neg (fun ⟨i, h1, h2, _⟩ => h i h1 h2)]
theorem mrg_len (R : Rn) (ord : It → Int) : ∀ (k : Nat) (pos : Nat → Nat), (mrg R ord k pos).length ≤ k
  | 0, _ => by simp [mrg]
  | k + 1, pos => by
    rw [mrg]
    split
    · rename_i hex
      have := mrg_len R ord k (bump pos hex.choose)
      simp only [List.length_cons]
      omega
    · simp
theorem mrg_mem {R : Rn} {ord : It → Int} : ∀ (k : Nat) (pos : Nat → Nat) (x : It), x ∈ mrg R ord k pos → VIt R x
  | 0, _, x, h => by simp [mrg] at h
  | k + 1, pos, x, h => by
    rw [mrg] at h
    split at h
    · rename_i hex
      have hs := hex.choose_spec
      rcases List.mem_cons.1 h with rfl | h
      · exact ⟨hs.1, hs.2.1⟩
      · exact mrg_mem k _ x h
    · cases h
/-- the sources behind some pairs -/
def itemsP (R : Rn) (pos : Nat → Nat) : List It := ((List.range R.n).filter fun i => decide (pos i < R.ln i)).map fun i => (i, pos i)
theorem items_mem {R : Rn} {pos : Nat → Nat} {x : It} : x ∈ itemsP R pos ↔ x.1 < R.n ∧ pos x.1 < R.ln x.1 ∧ x.2 = pos x.1 := by
  unfold itemsP
  constructor
  · intro h
    obtain ⟨i, hi, rfl⟩ := List.mem_map.1 h
    obtain ⟨h1, h2⟩ := List.mem_filter.1 hi
    exact ⟨List.mem_range.1 h1, of_decide_eq_true h2, rfl⟩
  · rintro ⟨h1, h2, h3⟩
    exact List.mem_map.2 ⟨x.1, List.mem_filter.2 ⟨List.mem_range.2 h1, decide_eq_true h2⟩, by rw [← h3]⟩
theorem items_valid {R : Rn} {pos : Nat → Nat} {l : List It} (h : l.Perm (itemsP R pos)) : VIts R l := fun x hx => by
  obtain ⟨h1, h2, h3⟩ := items_mem.1 (h.mem_iff.1 hx)
  exact ⟨h1, by rw [h3]; exact h2⟩
theorem items_len (R : Rn) (pos : Nat → Nat) : (itemsP R pos).length ≤ R.n := by
  unfold itemsP
  rw [List.length_map]
  exact Nat.le_trans (List.length_filter_le _ _) (by simp)
theorem top_best {R : Rn} {ord : It → Int} {pos : Nat → Nat} {x : It} {t : List It} (hp : (x :: t).Perm (itemsP R pos)) (hh : HeapO (x :: t).length (ordL ord (x :: t))) : x.2 = pos x.1 ∧ BestI R ord pos x.1 := by
  obtain ⟨h1, h2, h3⟩ := items_mem.1 (hp.mem_iff.1 (List.mem_cons_self (a := x) (l := t)))
  refine ⟨h3, h1, h2, fun j hj hl => ?_⟩
  have hm : (j, pos j) ∈ x :: t := hp.mem_iff.2 (items_mem.2 ⟨hj, hl, rfl⟩)
  obtain ⟨k, hk, e⟩ := List.getElem_of_mem hm
  have h4 := heap_top hh k hk
  have e0 : ordL ord (x :: t) 0 = ord x := rfl
  have ek : ordL ord (x :: t) k = ord (j, pos j) := by
    unfold ordL
    rw [List.getD_eq_getElem?_getD, List.getElem?_eq_getElem hk, e]
    rfl
  rw [e0, ek] at h4
  rw [← h3]
  exact h4
theorem items_cut {R : Rn} {pos : Nat → Nat} {i : Nat} (hi : i < R.n) (hp : pos i < R.ln i) : ∃ P Q : List It, itemsP R pos = P ++ (i, pos i) :: Q ∧ (pos i + 1 < R.ln i → itemsP R (bump pos i) = P ++ (i, pos i + 1) :: Q) ∧ (¬ pos i + 1 < R.ln i → itemsP R (bump pos i) = P ++ Q) := by
  have eA : ∀ L : List Nat, (∀ j ∈ L, j ≠ i) → (L.filter fun j => decide (bump pos i j < R.ln j)).map (fun j => (j, bump pos i j)) = (L.filter fun j => decide (pos j < R.ln j)).map (fun j => (j, pos j)) := fun L hL => by
    have : L.filter (fun j => decide (bump pos i j < R.ln j)) = L.filter (fun j => decide (pos j < R.ln j)) := List.filter_congr (fun j hj => by rw [bump_other pos (hL j hj)])
    rw [this]
    exact List.map_congr_left (fun j hj => by rw [bump_other pos (hL j (List.mem_filter.1 hj).1)])
  have hP : ∀ j ∈ List.range i, j ≠ i := fun j hj => by have := List.mem_range.1 hj; omega
  have hQ : ∀ j ∈ (List.range (R.n - i - 1)).map (fun k => i + 1 + k), j ≠ i := fun j hj => by
    obtain ⟨k, _, rfl⟩ := List.mem_map.1 hj
    omega
  refine ⟨((List.range i).filter fun j => decide (pos j < R.ln j)).map (fun j => (j, pos j)), (((List.range (R.n - i - 1)).map (fun k => i + 1 + k)).filter fun j => decide (pos j < R.ln j)).map (fun j => (j, pos j)), ?_, fun h => ?_, fun h => ?_⟩
  · unfold itemsP
    rw [range_cut R.n i hi, List.filter_append, List.filter_cons_of_pos (by simpa using hp), List.map_append, List.map_cons]
  · unfold itemsP
    rw [range_cut R.n i hi, List.filter_append, List.filter_cons_of_pos (by rw [bump_same]; simpa using h), List.map_append, List.map_cons, eA _ hP, eA _ hQ, bump_same]
  · unfold itemsP
    rw [range_cut R.n i hi, List.filter_append, List.filter_cons_of_neg (by rw [bump_same]; simpa using h), List.map_append, eA _ hP, eA _ hQ]
theorem items_step {R : Rn} {pos : Nat → Nat} {i : Nat} {t : List It} (hi : i < R.n) (hp : pos i < R.ln i) (h : ((i, pos i) :: t).Perm (itemsP R pos)) :
    (pos i + 1 < R.ln i → ((i, pos i + 1) :: t).Perm (itemsP R (bump pos i))) ∧ (¬ pos i + 1 < R.ln i → t.Perm (itemsP R (bump pos i))) := by
  obtain ⟨P, Q, e1, e2, e3⟩ := items_cut hi hp
  rw [e1] at h
  have ht : t.Perm (P ++ Q) := (h.trans List.perm_middle).cons_inv
  refine ⟨fun k => ?_, fun k => ?_⟩
  · rw [e2 k]
    exact (ht.cons _).trans List.perm_middle.symm
  · rw [e3 k]
    exact ht
theorem items_none {R : Rn} {pos : Nat → Nat} (h : ([] : List It).Perm (itemsP R pos)) : ∀ i, i < R.n → ¬ pos i < R.ln i := fun i hi hp => by
  have hm : (i, pos i) ∈ itemsP R pos := items_mem.2 ⟨hi, hp, rfl⟩
  rw [← h.mem_iff] at hm
  cases hm
end Go.Proofs.Ytcgilgihmapipaa

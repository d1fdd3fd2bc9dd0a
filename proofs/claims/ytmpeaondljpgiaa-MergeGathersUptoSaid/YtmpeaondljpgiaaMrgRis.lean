/- Merging: sorted runs merged: how the keys rise, the groups, how often each pair comes. No program. -/
import Derived.Test.YtmpeaondljpgiaaMrgPcs
import Derived.Test.YtmpeaondljpgiaaMrgGrp
namespace Go.Proofs.Ytmpeaondljpgiaa
open Go.RowKit

abbrev Sq (R : Rn) := (i : Nat) → List (Fin (R.ln i + 1))
def SrtRuns (R : Rn) (S : Sq R) : Prop := ∀ i, i < R.n → (S i).Perm (dF (R.ln i)) ∧ SrtT (keyP (R.ln i) (R.K i)) (fun x => x.val) (S i)
def RnS (R : Rn) (S : Sq R) : Rn := ⟨R.n, fun _ => 0, fun _ => 0, R.ln, fun _ => 0, fun i p => R.K i ((S i).getD p 0).val, fun i p => R.V i ((S i).getD p 0).val⟩
def prR (R : Rn) (x : It) : ByteArray × ByteArray := (R.K x.1 x.2, R.V x.1 x.2)
def rowQ (R : Rn) (i : Nat) : List (ByteArray × ByteArray) := (List.range (R.ln i)).map fun j => (R.K i j, R.V i j)
def allQ (R : Rn) (k : Nat) : List (ByteArray × ByteArray) := (List.range k).flatMap (rowQ R)
theorem allQ_succ (R : Rn) (k : Nat) : allQ R (k + 1) = allQ R k ++ rowQ R k := by simp [allQ, List.range_succ]
theorem rises_perm {R : Rn} {S : Sq R} (h : SrtRuns R S) : ((mrgL (RnS R S) (ordR (RnS R S))).map (prR (RnS R S))).Perm (allQ R R.n) := by
  refine ((mrgL_perm (ord_inj (RnS R S))).map _).trans ?_
  unfold remP allQ
  rw [List.map_flatMap]
  refine flat_perm fun i hi => ?_
  have hi : i < R.n := List.mem_range.1 hi
  have hp := ((h i hi).1).map (fun x : Fin (R.ln i + 1) => (R.K i x.val, R.V i x.val))
  have hl : (S i).length = R.ln i := by rw [(h i hi).1.length_eq, dF_len]
  have e1 : (rowP (RnS R S) (fun _ => 0) i).map (prR (RnS R S)) = (S i).map (fun x : Fin (R.ln i + 1) => (R.K i x.val, R.V i x.val)) := by
    unfold rowP
    rw [List.map_map]
    refine List.ext_getElem (by simp [hl]; rfl) fun q h1 h2 => ?_
    simp only [List.getElem_map, List.getElem_range, Function.comp, Nat.zero_add]
    have hq : q < (S i).length := by simpa using h2
    show (R.K i ((S i).getD q 0).val, R.V i ((S i).getD q 0).val) = _
    rw [List.getD_eq_getElem?_getD, List.getElem?_eq_getElem hq]
    rfl
  have e2 : (dF (R.ln i)).map (fun x : Fin (R.ln i + 1) => (R.K i x.val, R.V i x.val)) = rowQ R i := by
    unfold rowQ
    rw [← dF_vals, List.map_map]
    rfl
  rw [e1, ← e2]
  exact hp
theorem rises_ord {R : Rn} {S : Sq R} (h : SrtRuns R S) (i : Nat) (hi : i < R.n) (p q : Nat) (hpq : p < q) (hq : q < R.ln i) : ordR (RnS R S) (i, p) ≤ ordR (RnS R S) (i, q) := by
  have hx : VIt (RnS R S) (i, p) := ⟨hi, by show p < R.ln i; omega⟩
  have hy : VIt (RnS R S) (i, q) := ⟨hi, hq⟩
  have hl : (S i).length = R.ln i := by rw [(h i hi).1.length_eq, dF_len]
  rcases ord_cases hx hy with ⟨_, c⟩ | ⟨c, _⟩ | ⟨_, _, c⟩
  · omega
  · have hsr := List.pairwise_iff_getElem.1 ((h i hi).2) p q (by omega) (by omega) hpq
    have gx : (S i).getD p 0 = (S i)[p]'(by omega) := by rw [List.getD_eq_getElem?_getD, List.getElem?_eq_getElem (by omega)]; rfl
    have gy : (S i).getD q 0 = (S i)[q]'(by omega) := by rw [List.getD_eq_getElem?_getD, List.getElem?_eq_getElem (by omega)]; rfl
    rw [← gx, ← gy] at hsr
    have c' : compare (R.K i ((S i).getD p 0).val).data.toList (R.K i ((S i).getD q 0).val).data.toList = .gt := c
    have hn : ¬ keyP (R.ln i) (R.K i) ((S i).getD q 0) < keyP (R.ln i) (R.K i) ((S i).getD p 0) := by
      rcases hsr with k | ⟨k, _⟩ <;> omega
    exact absurd ((keyP_lt _ _ _ _).1 (by
      rw [cmp_bytes, Std.OrientedCmp.gt_iff_lt.1 c']
      decide)) hn
  · have := c.2 rfl
    omega
def kkR (R : Rn) (l : List It) (j : Nat) : ByteArray := R.K (l.getD j (0, 0)).1 (l.getD j (0, 0)).2
def vvR (R : Rn) (l : List It) (j : Nat) : ByteArray := R.V (l.getD j (0, 0)).1 (l.getD j (0, 0)).2
theorem rises_keys {R : Rn} {S : Sq R} (h : SrtRuns R S) {L : List It} (hL : L = mrgL (RnS R S) (ordR (RnS R S))) (i j : Nat) (hij : i < j) (hj : j < L.length) :
    compare (kkR (RnS R S) L i).data.toList (kkR (RnS R S) L j).data.toList ≠ .gt := by
  have hp := mrg_rises (ord_inj (RnS R S)) (fun i hi p q => rises_ord h i hi p q) _ _ rfl (fun _ _ => Nat.zero_le _)
  have hL' : L = mrg (RnS R S) (ordR (RnS R S)) (tot (RnS R S) fun _ => 0) fun _ => 0 := hL
  rw [← hL'] at hp
  have h1 := (List.pairwise_iff_getElem.1 hp i j (by omega) hj hij).1
  have hm : ∀ x ∈ L, VIt (RnS R S) x := fun x hx => by
    rw [hL] at hx
    have := (mrgL_perm (ord_inj (RnS R S))).mem_iff.1 hx
    obtain ⟨a, ha, hx2⟩ := List.mem_flatMap.1 this
    obtain ⟨q, hq, rfl⟩ := List.mem_map.1 hx2
    have ha := List.mem_range.1 ha
    have hq : q < (RnS R S).ln a - 0 := List.mem_range.1 hq
    exact ⟨ha, by show 0 + q < (RnS R S).ln a; omega⟩
  have gi : L.getD i (0, 0) = L[i]'(by omega) := by rw [List.getD_eq_getElem?_getD, List.getElem?_eq_getElem (by omega)]; rfl
  have gj : L.getD j (0, 0) = L[j] := by rw [List.getD_eq_getElem?_getD, List.getElem?_eq_getElem hj]; rfl
  have v1 := hm _ (List.getElem_mem (by omega : i < L.length))
  have v2 := hm _ (List.getElem_mem hj)
  rw [← gi] at v1 h1
  rw [← gj] at v2 h1
  unfold kkR
  rcases ord_cases v1 v2 with ⟨c, _⟩ | ⟨_, c⟩ | ⟨c, _⟩
  · rw [c]; decide
  · omega
  · rw [c]; decide
/-- where a group begins and ends -/
theorem grp_end {K : Nat → ByteArray} {n : Nat} {g : Gr} (h : GrOk K n g) : ∀ d j, j + d + 1 = g.N → g.s j + g.c j ≤ n
  | 0, j, e => by
    have := h.last (by omega)
    rw [show g.N - 1 = j by omega] at this
    omega
  | d + 1, j, e => by
    have h1 := grp_end h d (j + 1) (by omega)
    have h2 := h.nx j (by omega)
    omega
theorem grp_lt {K : Nat → ByteArray} {n : Nat} {g : Gr} (h : GrOk K n g) (hK : ∀ i j, i < j → j < n → compare (K i).data.toList (K j).data.toList ≠ .gt) (j : Nat) (hj : j + 1 < g.N) : compare (K (g.s j)).data.toList (K (g.s (j + 1))).data.toList = .lt := by
  have h1 := h.nx j hj
  have h2 := h.c1 j (by omega)
  have h3 := grp_end h (g.N - (j + 1) - 1) (j + 1) (by omega)
  have h4 := h.c1 (j + 1) hj
  have h5 := h.key j (by omega) (g.c j - 1) (by omega)
  have h6 := h.new j hj
  rw [show g.s (j + 1) - 1 = g.s j + (g.c j - 1) by omega, h5] at h6
  have h7 := hK (g.s j) (g.s (j + 1)) (by omega) (by omega)
  rcases e : compare (K (g.s j)).data.toList (K (g.s (j + 1))).data.toList with _ | _ | _
  · rfl
  · have := Std.LawfulEqCmp.eq_of_compare e
    exact absurd (ByteArray.ext (Array.toList_inj.1 this)).symm h6
  · exact absurd e h7
theorem grp_less {K : Nat → ByteArray} {n : Nat} {g : Gr} (h : GrOk K n g) (hK : ∀ i j, i < j → j < n → compare (K i).data.toList (K j).data.toList ≠ .gt) (j : Nat) (hj : j + 1 < g.N) : Go.Op.bytesLess (K (g.s j)).data.toList (K (g.s (j + 1))).data.toList = true := by
  rw [less_cmp, grp_lt h hK j hj]
  rfl
def csG (g : Gr) (k : Nat) : Nat := if k = 0 then 0 else g.s (k - 1) + g.c (k - 1)
theorem csG_succ {K : Nat → ByteArray} {n : Nat} {g : Gr} (h : GrOk K n g) (k : Nat) (hk : k < g.N) : csG g (k + 1) = csG g k + g.c k ∧ csG g (k + 1) ≤ n := by
  have h3 := grp_end h (g.N - k - 1) k (by omega)
  unfold csG
  rw [if_neg (by omega), Nat.add_sub_cancel]
  refine ⟨?_, h3⟩
  by_cases e : k = 0
  · subst e
    rw [if_pos rfl, h.s0 (by omega)]
  · rw [if_neg e]
    obtain ⟨j, rfl⟩ : ∃ j, k = j + 1 := ⟨k - 1, by omega⟩
    rw [Nat.add_sub_cancel, h.nx j hk]
theorem csG_all {K : Nat → ByteArray} {n : Nat} {g : Gr} (h : GrOk K n g) : csG g g.N = n := by
  unfold csG
  by_cases e : g.N = 0
  · rw [if_pos e]
    by_cases e2 : n = 0
    · exact e2.symm
    · have := h.pos (by omega)
      omega
  · rw [if_neg e]
    exact h.last (by omega)
/-- how often a pair comes in a list -/
def cntQ (x : ByteArray × ByteArray) (l : List (ByteArray × ByteArray)) : Nat := l.countP fun y => decide (y = x)
theorem cntQ_app (x : ByteArray × ByteArray) (l r : List (ByteArray × ByteArray)) : cntQ x (l ++ r) = cntQ x l + cntQ x r := List.countP_append ..
theorem cntQ_le (x : ByteArray × ByteArray) (l : List (ByteArray × ByteArray)) : cntQ x l ≤ l.length := List.countP_le_length ..
def listQ (K V : Nat → ByteArray) (k : Nat) : List (ByteArray × ByteArray) := (List.range k).map fun j => (K j, V j)
theorem listQ_len (K V : Nat → ByteArray) (k : Nat) : (listQ K V k).length = k := by simp [listQ]
theorem cntQ_yes {K V : Nat → ByteArray} {k : Nat} {x : ByteArray × ByteArray} (h : (K k, V k) = x) : cntQ x (listQ K V (k + 1)) = cntQ x (listQ K V k) + 1 := by
  simp [listQ, cntQ, List.range_succ, h]
theorem cntQ_no {K V : Nat → ByteArray} {k : Nat} {x : ByteArray × ByteArray} (h : ¬ (K k, V k) = x) : cntQ x (listQ K V (k + 1)) = cntQ x (listQ K V k) := by
  simp [listQ, cntQ, List.range_succ, h]
theorem listQ_all (R : Rn) (L : List It) : listQ (kkR R L) (vvR R L) L.length = L.map (prR R) := by
  refine List.ext_getElem (by simp [listQ]) fun i h1 h2 => ?_
  have hi : i < L.length := by simpa using h2
  simp only [listQ, List.getElem_map, List.getElem_range, kkR, vvR, prR]
  rw [List.getD_eq_getElem?_getD, List.getElem?_eq_getElem hi]
  rfl
theorem rises_count {R : Rn} {S : Sq R} (h : SrtRuns R S) {L : List It} (hL : L = mrgL (RnS R S) (ordR (RnS R S))) (x : ByteArray × ByteArray) :
    cntQ x (listQ (kkR (RnS R S) L) (vvR (RnS R S) L) L.length) = cntQ x (allQ R R.n) := by
  rw [listQ_all, hL]
  exact (rises_perm h).countP_eq _
theorem allQ_len (R : Rn) : ∀ k, (allQ R k).length = ((List.range k).map R.ln).sum
  | 0 => rfl
  | k + 1 => by
    rw [allQ_succ, List.length_append, allQ_len R k, List.range_succ, List.map_append, List.sum_append]
    simp [rowQ]
end Go.Proofs.Ytmpeaondljpgiaa

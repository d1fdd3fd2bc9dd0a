/- Stable sorting: lists, their orders, exchanges in rows. No program. -/
import Derived.Shelf.SlSortCmp.Kit1
namespace Go.Proofs.Ytmpeaondljpgiaa
open Go.Sort (swp)

section
variable {α : Type}
section
variable [Inhabited α]
theorem get_at (P R : List α) (x : α) {i : Nat} (hi : i = P.length) : (P ++ x :: R).toArray[i]! = x := by
  subst hi
  simp
theorem swp_list (P M Q : List α) (x y : α) {i j : Nat} (hi : i = P.length) (hj : j = P.length + 1 + M.length) : swp (P ++ x :: (M ++ y :: Q)).toArray i j = (P ++ y :: (M ++ x :: Q)).toArray := by
  have e1 : (P ++ x :: (M ++ y :: Q)).toArray[j]! = y := by
    rw [show P ++ x :: (M ++ y :: Q) = (P ++ x :: M) ++ y :: Q by simp]
    exact get_at _ _ _ (by simp; omega)
  have e2 : (P ++ x :: (M ++ y :: Q)).toArray[i]! = x := get_at _ _ _ hi
  unfold swp
  rw [e1, e2]
  apply Array.ext'
  rw [Array.toList_setIfInBounds, Array.toList_setIfInBounds]
  subst hi hj
  rw [show (P ++ x :: (M ++ y :: Q)).toArray.toList = P ++ x :: (M ++ y :: Q) from rfl, List.set_append_right _ _ (Nat.le_refl _), Nat.sub_self, List.set_cons_zero]
  rw [show P ++ y :: (M ++ y :: Q) = (P ++ y :: M) ++ y :: Q by simp, List.set_append_right _ _ (by simp; omega)]
  rw [show P.length + 1 + M.length - (P ++ y :: M).length = 0 by simp; omega, List.set_cons_zero]
  simp
end
variable (key : α → Int) (num : α → Nat)
/-- the order: by key, of the same key by number -/
def Tl (x y : α) : Prop := key x < key y ∨ (key x = key y ∧ num x < num y)
theorem Tl.trans {key : α → Int} {num : α → Nat} {x y z : α} (h : Tl key num x y) (k : Tl key num y z) : Tl key num x z := by
  unfold Tl at *
  omega
def SrtT (l : List α) : Prop := l.Pairwise (Tl key num)
def Nl (A B : List α) : Prop := ∀ x ∈ A, ∀ y ∈ B, num x < num y
variable {key num}
theorem merge_split {A1 A2 B1 B2 R1 R2 : List α} (hA : SrtT key num (A1 ++ A2)) (hB : SrtT key num (B1 ++ B2)) (hn : Nl num (A1 ++ A2) (B1 ++ B2))
    (h1 : ∀ A' l h B', A1 = A' ++ [l] → B2 = h :: B' → key l ≤ key h) (h2 : ∀ B' l h A', B1 = B' ++ [l] → A2 = h :: A' → key l < key h)
    (p1 : R1.Perm (A1 ++ B1)) (s1 : SrtT key num R1) (p2 : R2.Perm (A2 ++ B2)) (s2 : SrtT key num R2) : (R1 ++ R2).Perm ((A1 ++ A2) ++ (B1 ++ B2)) ∧ SrtT key num (R1 ++ R2) := by
  refine ⟨(p1.append p2).trans ?_, List.pairwise_append.2 ⟨s1, s2, fun x hx y hy => ?_⟩⟩
  · have e : (A1 ++ B1 ++ (A2 ++ B2)).Perm (A1 ++ (A2 ++ (B1 ++ B2))) := by
      rw [List.append_assoc]
      refine List.Perm.append_left _ ?_
      rw [← List.append_assoc, ← List.append_assoc]
      exact List.Perm.append_right _ List.perm_append_comm
    simpa using e
  · have hx := p1.mem_iff.1 hx
    have hy := p2.mem_iff.1 hy
    obtain ⟨sA1, sA2, cA⟩ := List.pairwise_append.1 hA
    obtain ⟨sB1, sB2, cB⟩ := List.pairwise_append.1 hB
    have lastA : ∀ (A : List α), SrtT key num A → ∀ z ∈ A, ∃ A' l, A = A' ++ [l] ∧ (z = l ∨ Tl key num z l) := fun A hA z hz => by
      rcases List.eq_nil_or_concat A with rfl | ⟨A', l, rfl⟩
      · cases hz
      · refine ⟨A', l, by simp, ?_⟩
        rw [List.concat_eq_append] at hz hA
        rcases List.mem_append.1 hz with hz | hz
        · exact .inr ((List.pairwise_append.1 hA).2.2 z hz l (by simp))
        · exact .inl (by simpa using hz)
    have headB : ∀ (A : List α), SrtT key num A → ∀ z ∈ A, ∃ h A', A = h :: A' ∧ (z = h ∨ Tl key num h z) := fun A hA z hz => by
      match A, hA, hz with
      | h :: A', hA, hz =>
        refine ⟨h, A', rfl, ?_⟩
        rcases List.mem_cons.1 hz with rfl | hz
        · exact .inl rfl
        · exact .inr ((List.pairwise_cons.1 hA).1 z hz)
    rcases List.mem_append.1 hx with hx | hx <;> rcases List.mem_append.1 hy with hy | hy
    · exact cA x hx y hy
    · obtain ⟨A', l, e1, k1⟩ := lastA A1 sA1 x hx
      obtain ⟨h, B', e2, k2⟩ := headB B2 sB2 y hy
      have hk := h1 A' l h B' e1 e2
      have hnn := hn l (by rw [e1]; simp) h (by rw [e2]; simp)
      have hlh : Tl key num l h := by unfold Tl; omega
      rcases k1 with rfl | k1 <;> rcases k2 with rfl | k2
      · exact hlh
      · exact hlh.trans k2
      · exact k1.trans hlh
      · exact (k1.trans hlh).trans k2
    · obtain ⟨B', l, e1, k1⟩ := lastA B1 sB1 x hx
      obtain ⟨h, A', e2, k2⟩ := headB A2 sA2 y hy
      have hlh : Tl key num l h := .inl (h2 B' l h A' e1 e2)
      rcases k1 with rfl | k1 <;> rcases k2 with rfl | k2
      · exact hlh
      · exact hlh.trans k2
      · exact k1.trans hlh
      · exact (k1.trans hlh).trans k2
    · exact cB x hx y hy
/-- one more is laid into a sorted list -/
theorem ins_stop {U V : List α} {x : α} (hU : SrtT key num (U ++ V)) (hV : ∀ v ∈ V, Tl key num x v) (hn : ∀ u ∈ U, num u < num x) (hs : ∀ U' u, U = U' ++ [u] → key u ≤ key x) : SrtT key num (U ++ x :: V) := by
  obtain ⟨s1, s2, c⟩ := List.pairwise_append.1 hU
  have hux : ∀ u ∈ U, Tl key num u x := fun u hu => by
    rcases List.eq_nil_or_concat U with rfl | ⟨U', l, rfl⟩
    · cases hu
    · rw [List.concat_eq_append] at hu s1 hn hs
      have hl : Tl key num l x := by
        have h1 := hs U' l rfl
        have h2 := hn l (by simp)
        unfold Tl
        omega
      rcases List.mem_append.1 hu with hu | hu
      · exact ((List.pairwise_append.1 s1).2.2 u hu l (by simp)).trans hl
      · rw [show u = l by simpa using hu]; exact hl
  refine List.pairwise_append.2 ⟨s1, List.pairwise_cons.2 ⟨hV, s2⟩, fun u hu v hv => ?_⟩
  rcases List.mem_cons.1 hv with rfl | hv
  · exact hux u hu
  · exact (hux u hu).trans (hV v hv)
end
end Go.Proofs.Ytmpeaondljpgiaa

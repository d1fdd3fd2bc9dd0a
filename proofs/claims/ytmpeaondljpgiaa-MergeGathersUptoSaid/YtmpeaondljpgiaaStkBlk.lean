/- Stable sorting: how the blocks grow. -/
import Derived.Test.YtmpeaondljpgiaaStkSta
namespace Go.Proofs.Ytmpeaondljpgiaa
open Go.RowKit Go.Lib Go.Sort Go.Shelf

section
variable {α : Type} {key : α → Int} {num : α → Nat}
theorem fl1_cons (x : List α × List α) (B : Bk α) : fl1 (x :: B) = x.1 ++ fl1 B := by simp [fl1]
theorem fl2_cons (x : List α × List α) (B : Bk α) : fl2 (x :: B) = x.2 ++ fl2 B := by simp [fl2]
/-- one more block -/
theorem bk_step {L : List α} {s : Nat} {Bs : Bk α} {T S' : List α} (hL : L = fl1 Bs ++ T) (hB : BkOk key num s Bs) (hT : s ≤ T.length) (hp : S'.Perm (T.take s)) (hs : SrtT key num S') :
    L = fl1 (Bs ++ [(T.take s, S')]) ++ T.drop s ∧ BkOk key num s (Bs ++ [(T.take s, S')]) ∧ fl2 (Bs ++ [(T.take s, S')]) = fl2 Bs ++ S' ∧ (fl1 (Bs ++ [(T.take s, S')])).length = (fl1 Bs).length + s := by
  have hl : (T.take s).length = s := by simp; omega
  refine ⟨?_, hB.app ?_, ?_, ?_⟩
  · rw [fl1_app, fl1_one, hL, List.append_assoc, List.take_append_drop]
  · intro x hx
    obtain rfl := List.mem_singleton.1 hx
    exact ⟨hl, hp, hs⟩
  · rw [fl2_app, fl2_one]
  · rw [fl1_app, fl1_one, List.length_append, hl]
theorem bk_two {s : Nat} {B : Bk α} {O : List α} (hB : BkOk key num s B) (ho : O.length < s) (h : 2 * s ≤ (fl1 B).length + O.length) : ∃ x y B', B = x :: y :: B' := by
  match B, hB with
  | [], _ => simp [fl1] at h; omega
  | [x], hB => have := (hB x (by simp)).1; simp [fl1] at h; omega
  | x :: y :: B', _ => exact ⟨x, y, B', rfl⟩
theorem bk_few {s : Nat} {B : Bk α} {O : List α} (hB : BkOk key num s B) (h : (fl1 B).length + O.length < 2 * s) : B = [] ∨ ∃ x, B = [x] := by
  match B, hB with
  | [], _ => exact .inl rfl
  | [x], _ => exact .inr ⟨x, rfl⟩
  | x :: y :: B', hB =>
    have h1 := (hB x (by simp)).1
    have h2 := (hB y (by simp)).1
    simp [fl1] at h; omega
theorem bk_pair {L O : List α} {s : Nat} {Ds B : Bk α} {x y : List α × List α} {S' : List α} (hL : L = fl1 Ds ++ (fl1 (x :: y :: B) ++ O)) (hD : BkOk key num (2 * s) Ds) (hB : BkOk key num s (x :: y :: B)) (hp : S'.Perm (x.2 ++ y.2)) (hs : SrtT key num S') :
    L = fl1 (Ds ++ [(x.1 ++ y.1, S')]) ++ (fl1 B ++ O) ∧ BkOk key num (2 * s) (Ds ++ [(x.1 ++ y.1, S')]) ∧ BkOk key num s B ∧ fl2 (Ds ++ [(x.1 ++ y.1, S')]) = fl2 Ds ++ S' ∧ (fl1 (Ds ++ [(x.1 ++ y.1, S')])).length = (fl1 Ds).length + 2 * s := by
  obtain ⟨x1, x2, _⟩ := hB x (by simp)
  obtain ⟨y1, y2, _⟩ := hB y (by simp)
  refine ⟨?_, hD.app ?_, fun z hz => hB z (by simp [hz]), ?_, ?_⟩
  · rw [fl1_app, fl1_one, hL, fl1_cons, fl1_cons]; simp
  · intro z hz
    obtain rfl := List.mem_singleton.1 hz
    exact ⟨by simp; omega, hp.trans (x2.append y2), hs⟩
  · rw [fl2_app, fl2_one]
  · rw [fl1_app, fl1_one, List.length_append, List.length_append]; omega
theorem bk_pair_nl {L O : List α} {Ds B : Bk α} {s : Nat} {x y : List α × List α} (h : L.Pairwise fun u v => num u < num v) (hL : L = fl1 Ds ++ (fl1 (x :: y :: B) ++ O)) (hB : BkOk key num s (x :: y :: B)) : Nl num x.2 y.2 := by
  refine nl_of (hB x (by simp)).2.1 (hB y (by simp)).2.1 (nl_pw h (P := fl1 Ds) (Q := fl1 B ++ O) ?_)
  rw [hL, fl1_cons, fl1_cons]; simp
theorem bk_last_nl {L O S : List α} {Ds : Bk α} {s : Nat} {x : List α × List α} (h : L.Pairwise fun u v => num u < num v) (hL : L = fl1 Ds ++ (fl1 [x] ++ O)) (hB : BkOk key num s [x]) (hS : S.Perm O) : Nl num x.2 S := by
  refine nl_of (hB x (by simp)).2.1 hS (nl_pw h (P := fl1 Ds) (Q := []) ?_)
  rw [hL, fl1_one]; simp
/-- few are left: they are sorted as they lie, unless both are there -/
theorem bk_left {s : Nat} {B : Bk α} {O S : List α} (hB : BkOk key num s B) (ho : O.length < s) (hS : S.Perm O) (hs : SrtT key num S) (h : (fl1 B).length + O.length < 2 * s) (hm : (fl1 B).length + O.length ≤ s) : (fl2 B ++ S).Perm (fl1 B ++ O) ∧ SrtT key num (fl2 B ++ S) := by
  rcases bk_few hB h with rfl | ⟨x, rfl⟩
  · exact ⟨hS, hs⟩
  · obtain ⟨x1, x2, x3⟩ := hB x (by simp)
    rw [fl1_one] at hm
    have hO : O = [] := List.eq_nil_of_length_eq_zero (by omega)
    subst hO
    have hS0 : S = [] := List.Perm.eq_nil hS
    subst hS0
    rw [fl1_one, fl2_one, List.append_nil, List.append_nil]
    exact ⟨x2, x3⟩
theorem bk_both {s : Nat} {B : Bk α} {O : List α} (hB : BkOk key num s B) (ho : O.length < s) (h : (fl1 B).length + O.length < 2 * s) (hm : s < (fl1 B).length + O.length) : ∃ x, B = [x] ∧ x.1.length = s ∧ 0 < O.length := by
  rcases bk_few hB h with rfl | ⟨x, rfl⟩
  · simp [fl1] at hm; omega
  · obtain ⟨x1, x2, x3⟩ := hB x (by simp)
    rw [fl1_one] at hm
    exact ⟨x, rfl, x1, by omega⟩
end
end Go.Proofs.Ytmpeaondljpgiaa

/- The lines of a text: where each begins and ends; those that begin at a place or behind it. -/
import Derived.Test.YtijefbpgpehmfaaPlainKit
import Derived.Lib.IndexLaws
namespace Go.Proofs.Ytijefbpgpehmfaa

/-- how many bytes stand ahead of the first newline -/
def lnLen (l : List UInt8) : Nat := if Lib.indexByte l 10 < 0 then l.length else (Lib.indexByte l 10).toNat
theorem ln_cases (l : List UInt8) : (Lib.indexByte l 10 = -1 ∧ lnLen l = l.length ∧ ∀ k : Nat, l[k]? ≠ some 10) ∨ (∃ o : Nat, Lib.indexByte l 10 = (o : Int) ∧ lnLen l = o ∧ l[o]? = some 10 ∧ ∀ k : Nat, k < o → l[k]? ≠ some 10) := by
  have h := Lib.indexByte_ge l 10
  rcases (show Lib.indexByte l 10 = -1 ∨ 0 ≤ Lib.indexByte l 10 by omega) with h1 | h1
  · exact .inl ⟨h1, by unfold lnLen; rw [if_pos (by omega)], Lib.indexByte_none h1⟩
  · obtain ⟨o, ho⟩ : ∃ o : Nat, Lib.indexByte l 10 = (o : Int) := ⟨(Lib.indexByte l 10).toNat, by omega⟩
    have h2 := Lib.indexByte_some ho
    exact .inr ⟨o, ho, by unfold lnLen; rw [if_neg (by omega)]; omega, h2.1, h2.2⟩
theorem ln_le (l : List UInt8) : lnLen l ≤ l.length := by
  rcases ln_cases l with ⟨_, h, _⟩ | ⟨o, _, h, h2, _⟩
  · omega
  · have := (List.getElem?_eq_some_iff.1 h2).1
    omega
theorem ln_at {l : List UInt8} (h : lnLen l < l.length) : l[lnLen l]? = some 10 := by
  rcases ln_cases l with ⟨_, h1, _⟩ | ⟨o, _, h1, h2, _⟩
  · omega
  · rw [h1]; exact h2
theorem ln_none {l : List UInt8} {k : Nat} (h : k < lnLen l) : l[k]? ≠ some 10 := by
  rcases ln_cases l with ⟨_, h1, h2⟩ | ⟨o, _, h1, _, h2⟩
  · exact h2 k
  · exact h2 k (by omega)
theorem ln_eq {l : List UInt8} (n : Nat) (h1 : n ≤ l.length) (h2 : ∀ k, k < n → l[k]? ≠ some 10) (h3 : n < l.length → l[n]? = some 10) : lnLen l = n := by
  have hle := ln_le l
  rcases Nat.lt_trichotomy (lnLen l) n with h | h | h
  · exact absurd (ln_at (by omega)) (h2 _ h)
  · exact h
  · exact absurd (h3 (by omega)) (ln_none h)
theorem ln_drop (l : List UInt8) (k : Nat) (h : k ≤ lnLen l) : lnLen (l.drop k) = lnLen l - k := by
  have hle := ln_le l
  refine ln_eq _ (by rw [List.length_drop]; omega) (fun j hj => ?_) (fun hj => ?_)
  · rw [List.getElem?_drop]; exact ln_none (by omega)
  · rw [List.length_drop] at hj
    rw [List.getElem?_drop, show k + (lnLen l - k) = lnLen l by omega]
    exact ln_at (by omega)
/-- the lines that begin at a, a line's beginning, or behind it: where each begins and ends -/
def linesFrom (l : List UInt8) (a : Nat) : List (Nat × Nat) :=
  if h : a < l.length then (a, a + lnLen (l.drop a)) :: linesFrom l (a + lnLen (l.drop a) + 1) else []
termination_by l.length - a
theorem lf_nil {l : List UInt8} {a : Nat} (h : ¬ a < l.length) : linesFrom l a = [] := by rw [linesFrom, dif_neg h]
theorem lf_cons {l : List UInt8} {a : Nat} (h : a < l.length) : linesFrom l a = (a, a + lnLen (l.drop a)) :: linesFrom l (a + lnLen (l.drop a) + 1) := by
  conv => lhs; rw [linesFrom, dif_pos h]
/-- where the first line begins that does so at a place or behind it -/
def begL (l : List UInt8) (c : Int) : Nat := if c < 1 then 0 else min (min (c.toNat - 1) l.length + lnLen (l.drop (min (c.toNat - 1) l.length)) + 1) l.length
theorem ln_end {l : List UInt8} {a : Nat} (h : a ≤ l.length) : a + lnLen (l.drop a) ≤ l.length := by
  have := ln_le (l.drop a)
  rw [List.length_drop] at this
  omega
theorem beg_skip {l : List UInt8} {c : Int} {a : Nat} (h0 : a < l.length) (h1 : (a : Int) < c) (h2 : c ≤ ((a + lnLen (l.drop a) + 1 : Nat) : Int)) : linesFrom l (begL l c) = linesFrom l (a + lnLen (l.drop a) + 1) := by
  have he := ln_end (l := l) (a := a) (by omega)
  obtain ⟨q, hq⟩ : ∃ q, q = c.toNat - 1 := ⟨_, rfl⟩
  have e1 : min (c.toNat - 1) l.length = q := by omega
  have e2 : lnLen (l.drop q) = lnLen (l.drop a) - (q - a) := by
    have := ln_drop (l.drop a) (q - a) (by omega)
    rw [List.drop_drop, show a + (q - a) = q by omega] at this
    exact this
  unfold begL
  rw [if_neg (by omega), e1, e2, show q + (lnLen (l.drop a) - (q - a)) + 1 = a + lnLen (l.drop a) + 1 by omega]
  by_cases hle : a + lnLen (l.drop a) + 1 ≤ l.length
  · rw [Nat.min_eq_left hle]
  · rw [Nat.min_eq_right (by omega), lf_nil (by omega), lf_nil (by omega)]
theorem lf_ge {l : List UInt8} {a : Nat} : ∀ x ∈ linesFrom l a, a ≤ x.1 := by
  induction a using linesFrom.induct l with
  | case1 a h ih =>
    rw [lf_cons h]
    intro x hx
    rcases List.mem_cons.1 hx with rfl | hx
    · exact Nat.le_refl _
    · have := ih x hx
      omega
  | case2 a h => rw [lf_nil h]; simp
theorem lf_rise {l : List UInt8} {a : Nat} : (linesFrom l a).Pairwise fun x y => x.1 < y.1 := by
  induction a using linesFrom.induct l with
  | case1 a h ih =>
    rw [lf_cons h]
    refine List.pairwise_cons.2 ⟨fun x hx => ?_, ih⟩
    have := lf_ge x hx
    show a < x.1
    omega
  | case2 a h => rw [lf_nil h]; exact List.Pairwise.nil
theorem lf_end {l : List UInt8} {a : Nat} : ∀ x ∈ linesFrom l a, x.1 ≤ x.2 ∧ x.2 ≤ l.length ∧ x.1 < l.length := by
  induction a using linesFrom.induct l with
  | case1 a h ih =>
    rw [lf_cons h]
    intro x hx
    rcases List.mem_cons.1 hx with rfl | hx
    · have := ln_end (l := l) (a := a) (by omega)
      exact ⟨by show a ≤ a + _; omega, this, h⟩
    · exact ih x hx
  | case2 a h => rw [lf_nil h]; simp
theorem lf_len {l : List UInt8} {a : Nat} : (linesFrom l a).length ≤ l.length - a := by
  induction a using linesFrom.induct l with
  | case1 a h ih => rw [lf_cons h, List.length_cons]; omega
  | case2 a h => rw [lf_nil h]; simp
/-- behind a place: what begins ahead of it is left out -/
theorem lf_behind {l : List UInt8} {c : Int} {a : Nat} : (a : Int) < c → (linesFrom l a).dropWhile (fun x => decide ((x.1 : Int) < c)) = linesFrom l (begL l c) := by
  induction a using linesFrom.induct l with
  | case1 a h ih =>
    intro hc
    rw [lf_cons h, List.dropWhile_cons_of_pos (by simpa using hc)]
    by_cases hn : ((a + lnLen (l.drop a) + 1 : Nat) : Int) < c
    · exact ih hn
    · rw [beg_skip h hc (by omega)]
      by_cases hl : a + lnLen (l.drop a) + 1 < l.length
      · rw [lf_cons hl, List.dropWhile_cons_of_neg (by simpa using hn)]
      · rw [lf_nil hl]; rfl
  | case2 a h =>
    intro hc
    rw [lf_nil h]
    have e : begL l c = l.length := by
      unfold begL
      rw [if_neg (by omega)]
      omega
    rw [e, lf_nil (by omega)]
    rfl
theorem lf_all {l : List UInt8} (c : Int) : (linesFrom l 0).dropWhile (fun x => decide ((x.1 : Int) < c)) = linesFrom l (begL l c) := by
  by_cases h : c < 1
  · unfold begL
    rw [if_pos h]
    cases hl : linesFrom l 0 with
    | nil => rfl
    | cons x r => rw [List.dropWhile_cons_of_neg (by simp; omega)]
  · exact lf_behind (by omega)
theorem drop_while {α : Type} (p : α → Bool) : ∀ L : List α, L.dropWhile p = L.drop (L.takeWhile p).length
  | [] => rfl
  | x :: L => by
    cases hx : p x with
    | true => rw [List.dropWhile_cons_of_pos hx, List.takeWhile_cons_of_pos hx, List.length_cons, List.drop_succ_cons]; exact drop_while p L
    | false => rw [List.dropWhile_cons_of_neg (by simp [hx]), List.takeWhile_cons_of_neg (by simp [hx])]; rfl
/-- in a list that rises, what is less stands first -/
theorem rise_take {L : List (Nat × Nat)} (h : L.Pairwise fun x y => x.1 < y.1) (c : Int) : ∀ i (hi : i < L.length), (L[i].1 : Int) < c ↔ i < (L.takeWhile (fun x => decide ((x.1 : Int) < c))).length := by
  induction L with
  | nil => intro i hi; simp at hi
  | cons x L ih =>
    obtain ⟨h1, h2⟩ := List.pairwise_cons.1 h
    intro i hi
    by_cases hx : (x.1 : Int) < c
    · rw [List.takeWhile_cons_of_pos (by simpa using hx), List.length_cons]
      cases i with
      | zero => simpa using hx
      | succ i =>
        have := ih h2 i (by simpa using hi)
        rw [List.getElem_cons_succ]
        omega
    · rw [List.takeWhile_cons_of_neg (by simpa using hx)]
      cases i with
      | zero => simpa using hx
      | succ i =>
        have hi' : i < L.length := by simpa using hi
        have := h1 L[i] (List.getElem_mem hi')
        rw [List.getElem_cons_succ, List.length_nil]
        omega
/-- the lines that begin in a split -/
def recL (l : List UInt8) (c d : Int) : List (Nat × Nat) := (linesFrom l (begL l c)).takeWhile fun x => decide ((x.1 : Int) < d)
/-- how many begin ahead of it -/
def aheadL (l : List UInt8) (c : Int) : Nat := ((linesFrom l 0).takeWhile (fun x => decide ((x.1 : Int) < c))).length
theorem recL_at (l : List UInt8) (c d : Int) (i : Nat) (hi : i < (linesFrom l 0).length) :
    (((linesFrom l 0)[i].1 : Int) < c ↔ i < aheadL l c) ∧ (aheadL l c ≤ i → (((linesFrom l 0)[i].1 : Int) < d ↔ i - aheadL l c < (recL l c d).length) ∧ ∀ h : i - aheadL l c < (recL l c d).length, (recL l c d)[i - aheadL l c] = (linesFrom l 0)[i]) := by
  refine ⟨rise_take lf_rise c i hi, fun hle => ?_⟩
  have hd : linesFrom l (begL l c) = (linesFrom l 0).drop (aheadL l c) := by
    rw [← lf_all c]
    exact drop_while _ _
  have hj : i - aheadL l c < ((linesFrom l 0).drop (aheadL l c)).length := by rw [List.length_drop]; omega
  have e : ((linesFrom l 0).drop (aheadL l c))[i - aheadL l c] = (linesFrom l 0)[i] := by
    rw [List.getElem_drop]
    congr 1
    omega
  have hr := rise_take (L := (linesFrom l 0).drop (aheadL l c)) (List.Pairwise.sublist (List.drop_sublist _ _) lf_rise) d _ hj
  rw [e] at hr
  unfold recL
  rw [hd]
  refine ⟨hr, fun h => ?_⟩
  have := (List.takeWhile_prefix (l := (linesFrom l 0).drop (aheadL l c)) (fun x : Nat × Nat => decide ((x.1 : Int) < d)))
  rw [← e]
  exact List.IsPrefix.getElem this h
theorem recL_le (l : List UInt8) (c d : Int) : (recL l c d).length ≤ (linesFrom l 0).length - aheadL l c := by
  unfold recL
  have hd : linesFrom l (begL l c) = (linesFrom l 0).dropWhile (fun x => decide ((x.1 : Int) < c)) := (lf_all c).symm
  have h1 := (List.takeWhile_sublist (l := linesFrom l (begL l c)) (fun x : Nat × Nat => decide ((x.1 : Int) < d))).length_le
  rw [hd] at h1 ⊢
  have h2 := congrArg List.length (List.takeWhile_append_dropWhile (p := fun x : Nat × Nat => decide ((x.1 : Int) < c)) (l := linesFrom l 0))
  rw [List.length_append] at h2
  unfold aheadL
  omega
end Go.Proofs.Ytijefbpgpehmfaa

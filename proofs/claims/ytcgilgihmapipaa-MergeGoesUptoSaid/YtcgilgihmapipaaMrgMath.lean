/- Merging: the order of texts, ranks of keys, heaps over lists. No program. -/
import Derived.Lib.Strings
import Derived.Lib.Bytealg
import Derived.Laws.Strings
namespace Go.Proofs.Ytcgilgihmapipaa

abbrev Bts := List UInt8
theorem less_cmp (x y : Bts) : Go.Op.bytesLess x y = (compare x y == .lt) := by
  induction x generalizing y with
  | nil => cases y <;> rfl
  | cons a x ih =>
    cases y with
    | nil => rfl
    | cons b y =>
      rw [Go.Op.bytesLess, ih, List.compare_cons_cons]
      by_cases h1 : a < b
      · have h : compare a b = .lt := by simp [compare, compareOfLessAndEq, h1]
        simp [h, h1]
      · by_cases h2 : a = b
        · subst h2; simp
        · have h : compare a b = .gt := by simp [compare, compareOfLessAndEq, h1, h2]
          simp [h, h1, h2]
theorem cmp_bytes (x y : Bts) : Lib.compareBytes x y = match compare x y with | .lt => -1 | .eq => 0 | .gt => 1 := by
  induction x generalizing y with
  | nil => cases y <;> rfl
  | cons a x ih =>
    cases y with
    | nil => rfl
    | cons b y =>
      rw [Lib.compareBytes, ih, List.compare_cons_cons]
      by_cases h1 : a < b
      · have h : compare a b = .lt := by simp [compare, compareOfLessAndEq, h1]
        simp [h, h1]
      · by_cases h2 : a = b
        · subst h2
          have h : compare a a = .eq := by simp [compare, compareOfLessAndEq]
          have h3 : ¬ a < a := by simp
          simp [h, h3]
        · have h3 : b < a := by
            rcases Nat.lt_trichotomy a.toNat b.toNat with h | h | h
            · exact absurd (UInt8.lt_iff_toNat_lt.2 h) h1
            · exact absurd (UInt8.toNat_inj.1 h) h2
            · exact UInt8.lt_iff_toNat_lt.2 h
          have h : compare a b = .gt := by simp [compare, compareOfLessAndEq, h1, h2]
          simp [h, h1, h3]
/-- how many keys of a list stand ahead -/
def rank (KS : List Bts) (k : Bts) : Nat := KS.countP fun x => compare x k == .lt
theorem rank_lt {KS : List Bts} {a b : Bts} (ha : a ∈ KS) (h : compare a b = .lt) : rank KS a < rank KS b := by
  unfold rank
  have hle : ∀ x, (compare x a == .lt) = true → (compare x b == .lt) = true := fun x hx => by
    have h1 : compare x a = .lt := by simpa using hx
    simpa using Std.TransCmp.lt_trans h1 h
  have haa : (compare a a == Ordering.lt) = false := by
    have : compare a a = .eq := Std.ReflCmp.compare_self
    rw [this]; rfl
  induction KS with
  | nil => cases ha
  | cons y KS ih =>
    simp only [List.countP_cons]
    by_cases hy : a = y
    · subst hy
      have h1 : (compare a b == Ordering.lt) = true := by rw [h]; rfl
      rw [haa, h1]
      have := List.countP_mono_left (p := fun x => compare x a == .lt) (q := fun x => compare x b == .lt) (l := KS) (fun x _ hx => hle x hx)
      simp only [Bool.false_eq_true, if_false, if_true]
      omega
    · have hm : a ∈ KS := by
        rcases List.mem_cons.1 ha with h1 | h1
        · exact absurd h1 hy
        · exact h1
      have := ih hm
      by_cases h1 : (compare y a == Ordering.lt) = true
      · rw [h1, hle y h1]; simp only [if_true]; omega
      · have h1' : (compare y a == Ordering.lt) = false := by simpa using h1
        rw [h1']
        simp only [Bool.false_eq_true, if_false]
        split <;> omega
theorem rank_iff {KS : List Bts} {a b : Bts} (ha : a ∈ KS) (hb : b ∈ KS) : (rank KS a < rank KS b ↔ compare a b = .lt) ∧ (rank KS a = rank KS b ↔ a = b) := by
  have tri : compare a b = .lt ∨ a = b ∨ compare b a = .lt := by
    rcases h : compare a b with _ | _ | _
    · exact .inl rfl
    · exact .inr (.inl (Std.LawfulEqCmp.eq_of_compare h))
    · exact .inr (.inr (Std.OrientedCmp.gt_iff_lt.1 h))
  rcases tri with h | h | h
  · have := rank_lt ha h
    exact ⟨⟨fun _ => h, fun _ => this⟩, ⟨fun e => by omega, fun e => by subst e; omega⟩⟩
  · subst h
    have hc : compare a a = .eq := Std.ReflCmp.compare_self
    exact ⟨⟨fun h => by omega, fun h => by rw [hc] at h; cases h⟩, ⟨fun _ => rfl, fun _ => rfl⟩⟩
  · have := rank_lt hb h
    have hc : compare a b = .gt := Std.OrientedCmp.gt_iff_lt.2 h
    exact ⟨⟨fun h => by omega, fun h => by rw [hc] at h; cases h⟩, ⟨fun e => by omega, fun e => by subst e; omega⟩⟩
end Go.Proofs.Ytcgilgihmapipaa

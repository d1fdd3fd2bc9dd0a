/- Stable sorting: slices.stableCmpFunc and SortStableFunc over a row of one cell each, the elements in the order of their numbers. -/
import Derived.Test.YtmpeaondljpgiaaStkMain
namespace Go.Proofs.Ytmpeaondljpgiaa
open Go.RowKit Go.Lib Go.Sort Go.Shelf

section
variable {α : Type} [Inhabited α] {Ky Vl : α → ByteArray} {w0 : World} {blk off : Nat} {d0 : Array α} {key : α → Int} {num : α → Nat} {cf : α → α → Int} {g : Nat} {cb : Array Value}
abbrev Bk (α : Type) := List (List α × List α)
def fl1 (B : Bk α) : List α := B.flatMap (·.1)
def fl2 (B : Bk α) : List α := B.flatMap (·.2)
/-- blocks of size s: what they held, and it sorted -/
def BkOk (key : α → Int) (num : α → Nat) (s : Nat) (B : Bk α) : Prop := ∀ x ∈ B, x.1.length = s ∧ x.2.Perm x.1 ∧ SrtT key num x.2
omit [Inhabited α] in
theorem fl1_app (A B : Bk α) : fl1 (A ++ B) = fl1 A ++ fl1 B := List.flatMap_append ..
omit [Inhabited α] in
theorem fl2_app (A B : Bk α) : fl2 (A ++ B) = fl2 A ++ fl2 B := List.flatMap_append ..
omit [Inhabited α] in
theorem fl1_one (x : List α × List α) : fl1 [x] = x.1 := by simp [fl1]
omit [Inhabited α] in
theorem fl2_one (x : List α × List α) : fl2 [x] = x.2 := by simp [fl2]
omit [Inhabited α] in
theorem fl_len {s : Nat} {B : Bk α} (h : BkOk key num s B) : (fl1 B).length = B.length * s ∧ (fl2 B).length = B.length * s := by
  induction B with
  | nil => simp [fl1, fl2]
  | cons x B ih =>
    obtain ⟨h1, h2, _⟩ := h x (by simp)
    obtain ⟨i1, i2⟩ := ih (fun y hy => h y (by simp [hy]))
    have h3 := h2.length_eq
    simp only [fl1, fl2, List.flatMap_cons, List.length_append, List.length_cons, Nat.succ_mul] at i1 i2 ⊢
    omega
omit [Inhabited α] in
theorem BkOk.app {s : Nat} {A B : Bk α} (h : BkOk key num s A) (k : BkOk key num s B) : BkOk key num s (A ++ B) := fun x hx => by
  rcases List.mem_append.1 hx with hx | hx
  · exact h x hx
  · exact k x hx
omit [Inhabited α] in
theorem nl_of {A B A' B' : List α} (hA : A'.Perm A) (hB : B'.Perm B) (h : Nl num A B) : Nl num A' B' := fun x hx y hy => h x (hA.mem_iff.1 hx) y (hB.mem_iff.1 hy)
omit [Inhabited α] in
theorem nl_pw {L P A B Q : List α} (h : L.Pairwise fun x y => num x < num y) (e : L = P ++ (A ++ (B ++ Q))) : Nl num A B := fun x hx y hy => by
  rw [e] at h
  have h1 := (List.pairwise_append.1 h).2.1
  exact (List.pairwise_append.1 h1).2.2 x hx y (List.mem_append_left _ hy)
omit [Inhabited α] in
theorem pw_mid {L P A Q : List α} (h : L.Pairwise fun x y => num x < num y) (e : L = P ++ (A ++ Q)) : A.Pairwise fun x y => num x < num y := by
  rw [e] at h
  exact (List.pairwise_append.1 (List.pairwise_append.1 h).2.1).1
theorem insertion_none (cap n a : Nat) (ha : a < 4611686018427387904) (W : World) (cm : Value) :
    Calls Try.prog 37 #[.slice (some ⟨blk, off, none⟩) n cap, .int .i64 a, .int .i64 a, cm] W fun e w' => e = .returned (.tuple #[]) ∧ W = w' := by
  have hlt : ¬ (a : Int) + 1 < (a : Int) := by omega
  go_enter Try.func37, Try.ntmps37
  go_wp2
  go_loopw [8] (fun vi wr => vi = .int .i64 ((a : Int) + 1) ∧ W = wr) (fun _ _ => 0)
  case atStart => exact ⟨rfl, rfl⟩
  case round =>
    obtain ⟨rfl, rfl⟩ := hrel
    go_wp2
    first
      | (go_end0; exact ⟨rfl, rfl⟩)
      | (go_ret; exact ⟨rfl, rfl⟩)
      | exact bodyPost_ret (v := .tuple #[]) (results_none rfl _ _ _) rfl ⟨rfl, rfl⟩
/-- the tail, sorted -/
theorem insertion_any_K (R : RowK (encP Ky Vl) 2 w0 blk off d0) (hsz : d0.size < 4611686018427387904) (cap : Nat) (C : CmpK g cb Ky Vl cf key blk off d0.size w0) (P A Q : List α) (W : World) (a b : Nat) (HN : Hid (A.Pairwise fun x y => num x < num y)) (hs : (P ++ (A ++ Q)).length = d0.size) (ha : a = P.length) (hb : b = P.length + A.length)
    (S : Aside (SWK (encP Ky Vl) 2 w0 blk off (P ++ (A ++ Q)).toArray W)) :
    Calls Try.prog 37 #[.slice (some ⟨blk, off, none⟩) d0.size cap, .int .i64 a, .int .i64 b, .func (.func g) #[] cb] W fun e w' => e = .returned (.tuple #[]) ∧ ∃ S', Hid (S'.Perm A ∧ SrtT key num S' ∧ SWK (encP Ky Vl) 2 w0 blk off (P ++ (S' ++ Q)).toArray w') := by
  by_cases hA : 0 < A.length
  · exact insertion_K R hsz cap C P A Q W a b HN hs ha hb hA S
  · have hA0 : A = [] := List.eq_nil_of_length_eq_zero (by omega)
    subst hA0
    have hab : b = a := by simp at hb; omega
    subst hab
    have hlt : b < 4611686018427387904 := by
      simp only [List.length_append] at hs
      omega
    refine (insertion_none cap d0.size b hlt W _).mono ?_
    rintro e w' ⟨he, rfl⟩
    exact ⟨he, [], Lib.hid ⟨List.Perm.refl _, List.Pairwise.nil, S.out⟩⟩
end
end Go.Proofs.Ytmpeaondljpgiaa

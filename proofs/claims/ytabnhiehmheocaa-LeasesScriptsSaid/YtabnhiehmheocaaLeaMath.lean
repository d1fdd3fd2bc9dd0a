/- Package leases: the leases as a list that rises by the path. No program. -/
import Derived.Lib.Strings
import Derived.Laws.Strings
namespace Go.Proofs.Ytabnhiehmheocaa

structure Ls where
  p : ByteArray
  c : Int
  h : Int
deriving DecidableEq
/-- the order of texts -/
def blt (a b : ByteArray) : Bool := decide (a.data.toList < b.data.toList)
theorem blt_irrefl (a : ByteArray) : blt a a = false := by simp [blt, List.lt_irrefl]
theorem blt_trans {a b c : ByteArray} (h : blt a b = true) (k : blt b c = true) : blt a c = true := by
  simp only [blt, decide_eq_true_eq] at *
  exact List.lt_trans h k
theorem blt_asymm {a b : ByteArray} (h : blt a b = true) : blt b a = false := by
  cases k : blt b a
  · rfl
  · have := blt_trans h k
    rw [blt_irrefl] at this
    exact this.symm
theorem blt_total {a b : ByteArray} (h : ¬ a = b) (k : blt a b = false) : blt b a = true := by
  simp only [blt, decide_eq_false_iff_not, decide_eq_true_eq] at *
  have hne : ¬ a.data.toList = b.data.toList := fun e => h (ByteArray.ext (Array.toList_inj.1 e))
  have h1 : b.data.toList ≤ a.data.toList := List.not_lt.1 k
  rcases List.le_total a.data.toList b.data.toList with h2 | h2
  · exact absurd (List.le_antisymm h2 h1) hne
  · exact Decidable.byContradiction fun h3 => hne (List.le_antisymm (List.not_lt.1 h3) h1)
abbrev Srt (L : List Ls) : Prop := L.Pairwise fun x y => blt x.p y.p = true
theorem srt_one {L : List Ls} (h : Srt L) : ∀ {x y : Ls}, x ∈ L → y ∈ L → x.p = y.p → x = y := by
  induction L with
  | nil => intro x y hx; cases hx
  | cons a L ih =>
    intro x y hx hy e
    obtain ⟨h1, h2⟩ := List.pairwise_cons.1 h
    rcases List.mem_cons.1 hx with ex | mx <;> rcases List.mem_cons.1 hy with ey | my
    · rw [ex, ey]
    · have := h1 y my; rw [← ex, e, blt_irrefl] at this; cases this
    · have := h1 x mx; rw [← ey, e, blt_irrefl] at this; cases this
    · exact ih h2 mx my e
def dropL (L : List Ls) (q : ByteArray) : List Ls := L.filter fun x => !decide (x.p = q)
/-- where a lease belongs -/
def insL (l : Ls) : List Ls → List Ls
  | [] => [l]
  | x :: L => if blt x.p l.p then x :: insL l L else l :: x :: L
def grantL (L : List Ls) (q : ByteArray) (c h : Int) : List Ls := insL ⟨q, c, h⟩ (dropL L q)
def renewL (L : List Ls) (c h : Int) : List Ls := L.map fun x => if x.c = c then { x with h := h } else x
def dueL (L : List Ls) (t : Int) : List ByteArray := (L.filter fun x => decide (x.h ≤ t)).map (·.p)
def holdL (L : List Ls) (q : ByteArray) : Option Ls := L.find? fun x => decide (x.p = q)
theorem mem_insL (l x : Ls) : ∀ L : List Ls, x ∈ insL l L ↔ x = l ∨ x ∈ L
  | [] => by simp [insL]
  | y :: L => by
    unfold insL
    split
    · rw [List.mem_cons, mem_insL l x L, List.mem_cons]
      constructor
      · rintro (h | h | h)
        · exact .inr (.inl h)
        · exact .inl h
        · exact .inr (.inr h)
      · rintro (h | h | h)
        · exact .inr (.inl h)
        · exact .inl h
        · exact .inr (.inr h)
    · simp
theorem mem_dropL (L : List Ls) (q : ByteArray) (x : Ls) : x ∈ dropL L q ↔ x ∈ L ∧ ¬ x.p = q := by simp [dropL]
theorem mem_grantL (L : List Ls) (q : ByteArray) (c h : Int) (x : Ls) : x ∈ grantL L q c h ↔ x = ⟨q, c, h⟩ ∨ (x ∈ L ∧ ¬ x.p = q) := by
  unfold grantL
  rw [mem_insL, mem_dropL]
theorem srt_dropL {L : List Ls} (h : Srt L) (q : ByteArray) : Srt (dropL L q) := h.filter _
theorem srt_insL (l : Ls) : ∀ {L : List Ls}, Srt L → (∀ x ∈ L, ¬ x.p = l.p) → Srt (insL l L)
  | [], _, _ => by simp [insL]
  | y :: L, h, hn => by
    obtain ⟨h1, h2⟩ := List.pairwise_cons.1 h
    unfold insL
    split
    · next hy =>
      refine List.pairwise_cons.2 ⟨fun z hz => ?_, srt_insL l h2 (fun x hx => hn x (by simp [hx]))⟩
      rcases (mem_insL l z L).1 hz with rfl | hz
      · exact hy
      · exact h1 z hz
    · next hy =>
      have hly : blt l.p y.p = true := blt_total (hn y (by simp)) (by simpa using hy)
      refine List.pairwise_cons.2 ⟨fun z hz => ?_, h⟩
      rcases List.mem_cons.1 hz with rfl | hz
      · exact hly
      · exact blt_trans hly (h1 z hz)
theorem srt_grantL {L : List Ls} (h : Srt L) (q : ByteArray) (c t : Int) : Srt (grantL L q c t) :=
  srt_insL _ (srt_dropL h q) fun x hx => ((mem_dropL _ _ _).1 hx).2
theorem srt_renewL {L : List Ls} (h : Srt L) (c t : Int) : Srt (renewL L c t) := by
  refine List.Pairwise.map _ ?_ h
  intro a b hab
  split <;> split <;> exact hab
theorem mem_holdL {L : List Ls} {q : ByteArray} {x : Ls} (h : holdL L q = some x) : x ∈ L ∧ x.p = q := by
  unfold holdL at h
  exact ⟨List.mem_of_find?_eq_some h, by simpa using List.find?_some h⟩
theorem not_holdL {L : List Ls} {q : ByteArray} (h : holdL L q = none) : ∀ x ∈ L, ¬ x.p = q := by
  unfold holdL at h
  simpa using h
theorem holdL_of {L : List Ls} (hs : Srt L) {x : Ls} (hx : x ∈ L) : holdL L x.p = some x := by
  cases h : holdL L x.p with
  | none => exact absurd rfl (not_holdL h x hx)
  | some y =>
    obtain ⟨h1, h2⟩ := mem_holdL h
    rw [srt_one hs h1 hx h2]
theorem holdL_none {L : List Ls} {q : ByteArray} (h : ∀ x ∈ L, ¬ x.p = q) : holdL L q = none := by
  cases k : holdL L q with
  | none => rfl
  | some y => exact absurd (mem_holdL k).2 (h y (mem_holdL k).1)
theorem length_insL (l : Ls) : ∀ L : List Ls, (insL l L).length = L.length + 1
  | [] => rfl
  | y :: L => by
    unfold insL
    split
    · simp [length_insL l L]
    · rfl
theorem length_grantL (L : List Ls) (q : ByteArray) (c h : Int) : (grantL L q c h).length ≤ L.length + 1 := by
  unfold grantL
  rw [length_insL]
  have : (dropL L q).length ≤ L.length := List.length_filter_le _ _
  omega
theorem length_dropL (L : List Ls) (q : ByteArray) : (dropL L q).length ≤ L.length := List.length_filter_le _ _
theorem length_renewL (L : List Ls) (c h : Int) : (renewL L c h).length = L.length := List.length_map ..
theorem length_dueL (L : List Ls) (t : Int) : (dueL L t).length ≤ L.length := by
  unfold dueL
  rw [List.length_map]
  exact List.length_filter_le _ _
theorem dueL_rise {L : List Ls} (h : Srt L) (t : Int) : (dueL L t).Pairwise fun x y => blt x y = true := by
  unfold dueL
  exact List.Pairwise.map _ (fun _ _ h => h) (h.filter _)
/-- what sorting makes of the due paths in whatever order -/
theorem sorted_due {xs ys : List ByteArray} (hp : ys.Perm xs) (hs : xs.Pairwise fun x y => blt x y = true) :
    ((ys.map fun s => s.data.toList).mergeSort fun x y => decide (x ≤ y)) = xs.map fun s => s.data.toList := by
  have h1 := List.mergeSort_perm (ys.map fun s => s.data.toList) (fun x y => decide (x ≤ y))
  have h2 : ((ys.map fun s => s.data.toList).mergeSort fun x y => decide (x ≤ y)).Pairwise fun a b => decide (a ≤ b) = true := by
    refine List.pairwise_mergeSort (le := fun x y => decide (x ≤ y)) (fun a b c h k => ?_) (fun a b => ?_) _
    · simp only [decide_eq_true_eq] at *
      exact List.le_trans h k
    · simp only [Bool.or_eq_true, decide_eq_true_eq]
      exact List.le_total a b
  refine List.Perm.eq_of_pairwise (le := fun a b : List UInt8 => decide (a ≤ b) = true) (fun a b _ _ hab hba => ?_) h2 ?_ (h1.trans (hp.map _))
  · simp only [decide_eq_true_eq] at *
    exact List.le_antisymm hab hba
  · refine List.Pairwise.map _ (fun a b h => ?_) hs
    simp only [blt, decide_eq_true_eq] at *
    exact List.le_of_lt h
end Go.Proofs.Ytabnhiehmheocaa

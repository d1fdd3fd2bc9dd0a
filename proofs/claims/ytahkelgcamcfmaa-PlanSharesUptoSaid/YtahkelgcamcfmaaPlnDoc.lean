/- The law's list of lists of places; order of a converted number with itself. -/
import Derived.Test.YtahkelgcamcfmaaPlnRef
namespace Go.Proofs.Ytahkelgcamcfmaa
open Go.RowKit

open Ieee in
theorem word_no_nan (s : Bool) (r : Nat) (hr : r ≤ double.infRung) : ∀ s' t, double.read (double.word s r) ≠ .nan s' t := by
  have hb : double.infRung = 9218868437227405312 := by decide
  have hw : double.signWeight = 9223372036854775808 := by decide
  have hm : double.word s r % double.signWeight = r := by
    unfold Format.word
    rw [hb] at hr
    cases s
    · simp only [Bool.false_eq_true, if_false]
      rw [hw, Nat.mod_eq_of_lt (by omega)]
    · simp only [if_true]
      rw [hw, Nat.add_mod_left, Nat.mod_eq_of_lt (by omega)]
  intro s' t e
  unfold Format.read at e
  simp only [hm] at e
  split at e
  · cases e
  · split at e
    · cases e
    · split at e
      · cases e
      · omega
open Ieee in
theorem order_int (n : Int) : FloatKind.f64.format.order (floatOfInt .f64 n) (floatOfInt .f64 n) = some .eq := by
  have hn : ∀ s' t, double.read (floatOfInt .f64 n) ≠ .nan s' t := by
    have : ∃ s r, floatOfInt .f64 n = double.word s r ∧ r ≤ double.infRung := by
      show ∃ s r, double.nearest (n < 0) n.natAbs 0 = double.word s r ∧ r ≤ double.infRung
      unfold Format.nearest
      split
      · exact ⟨_, 0, rfl, Nat.zero_le _⟩
      · exact ⟨_, _, rfl, Nat.min_le_right _ _⟩
    obtain ⟨s, r, e, hr⟩ := this
    rw [e]
    exact word_no_nan s r hr
  rcases sort_of (floatOfInt .f64 n) with ⟨h, _⟩ | ⟨h, _, _⟩ | ⟨h, _, _⟩ | ⟨z, h, _, _⟩ | ⟨_, h, _⟩
  · exfalso
    have h1 := h (floatOfInt .f64 n)
    have h2 : (double.read (floatOfInt .f64 n)).order (double.read (floatOfInt .f64 n)) = none := h1
    cases hd : double.read (floatOfInt .f64 n) with
    | nan s t => exact hn s t hd
    | infinity s => rw [hd] at h2; cases s <;> cases h2
    | number s m p => rw [hd] at h2; cases h2
  · exact h
  · exact h
  · rw [fl_order h h]
    exact congrArg some (Int.compare_eq_eq.2 rfl)
  · exact h
def dcL (R : Nat → PrR) (a : Nat → Option Addr) (c : Nat → Nat) (n : Nat) : List Value := (List.range n).map fun j => .slice (a j) (R j).n (c j)
theorem dcL_succ (R : Nat → PrR) (a : Nat → Option Addr) (c : Nat → Nat) (n : Nat) : dcL R a c (n + 1) = dcL R a c n ++ [.slice (a n) (R n).n (c n)] := by unfold dcL; rw [List.range_succ, List.map_append]; rfl
theorem dcL_at (R : Nat → PrR) (a : Nat → Option Addr) (c : Nat → Nat) (n i : Nat) (h : i < n) : (dcL R a c n)[i]? = some (.slice (a i) (R i).n (c i)) := by unfold dcL; rw [List.getElem?_map, List.getElem?_range h]; rfl
theorem dcL_congr {R : Nat → PrR} {a a' : Nat → Option Addr} {c c' : Nat → Nat} {n : Nat} (h : ∀ j, j < n → a j = a' j ∧ c j = c' j) : dcL R a c n = dcL R a' c' n := by
  unfold dcL
  refine List.map_congr_left fun j hj => ?_
  obtain ⟨h1, h2⟩ := h j (List.mem_range.1 hj)
  rw [h1, h2]
structure DocAt (B : Nat) (w : World) (v : Value) (i : Nat) (R : Nat → PrR) (a : Nat → Option Addr) (c : Nat → Nat) : Prop where
  row : w.ownsRow B 27 1 v i (dcL R a c i)
  hd : ∀ j, j < i → w.ownsRow B 35 1 (.slice (a j) (R j).n (c j)) (R j).n (cxL (R j).it (R j).n)
section
variable {B i : Nat} {w w1 w' : World} {v v' : Value} {R : Nat → PrR} {a : Nat → Option Addr} {c : Nat → Nat}
theorem DocAt.below (h : DocAt B w v i R a c) (hb : Below w.heap.size w w') : DocAt B w' v i R a c := ⟨own_below h.row hb, fun j hj => own_below (h.hd j hj) hb⟩
theorem DocAt.docs {A : Option Addr} {cap : Nat} (h : DocAt B w (.slice A i cap) i R a c) (hR : ∀ j, j < i → (R j).n ≤ 1048576) : Docs w w.heap.size A i (TT R a c) := fun j hj => by
  obtain ⟨g, c', e, _, _⟩ := h.row.form (by omega)
  injection e with e _ _
  subst e
  have k := (h.row.cellAt j (by omega)).trans (dcL_at R a c i j hj)
  exact ⟨⟨hR j hj, own_cx (h.hd j hj) (Nat.le_refl _)⟩, g, 0, rfl, lt_of_cell' k, by rw [Nat.zero_add]; exact k⟩
theorem DocAt.push (h : DocAt B w v i R a c) (hB : B ≤ w.heap.size) {ai : Option Addr} {ci : Nat} (hb : Below w.heap.size w w1) (hr : w1.ownsRow w.heap.size 35 1 (.slice ai (R i).n ci) (R i).n (cxL (R i).it (R i).n))
    (hg : w1.grownBy w' v.ownBlock) (ho : w'.ownsRow B 27 1 v' (i + 1) (dcL R a c i ++ [.slice ai (R i).n ci])) :
    ∃ a' c', DocAt B w' v' (i + 1) R a' c' := by
  have h1 := h.below hb
  have hrr := h1.row
  refine ⟨fun j => if j = i then ai else a j, fun j => if j = i then ci else c j, ?_, fun j hj => ?_⟩
  · have e : dcL R (fun j => if j = i then ai else a j) (fun j => if j = i then ci else c j) (i + 1) = dcL R a c i ++ [.slice ai (R i).n ci] := by
      rw [dcL_succ, dcL_congr (a' := a) (c' := c) fun j hj => by simp [show ¬ j = i by omega]]
      simp
    rw [e]
    exact ho
  · by_cases e : j = i
    · subst e
      simp only [if_true]
      exact ((hr.kept hg (rows_apart5 hrr hr (by decide))).mono hB)
    · simp only [if_neg e]
      have hj' := h1.hd j (by omega)
      exact hj'.kept hg (rows_apart5 hrr hj' (by decide))
/-- a row of another type is written or appended to -/
theorem InAt.left {b' sz' n' : Nat} {e' : TypeId} {u : Value} {xs' : List Value} (h : InAt B w v i R a c) (hu : w.ownsRow b' e' sz' u n' xs') (h1 : e' ≠ 30) (h2 : e' ≠ 35) (hg : w.grownBy w' u.ownBlock) : InAt B w' v i R a c :=
  ⟨h.row.kept hg (rows_apart5 hu h.row h1), fun j hj => (h.hd j hj).kept hg (rows_apart5 hu (h.hd j hj) h2)⟩
theorem DocAt.left {b' sz' n' : Nat} {e' : TypeId} {u : Value} {xs' : List Value} (h : DocAt B w v i R a c) (hu : w.ownsRow b' e' sz' u n' xs') (h1 : e' ≠ 27) (h2 : e' ≠ 35) (hg : w.grownBy w' u.ownBlock) : DocAt B w' v i R a c :=
  ⟨h.row.kept hg (rows_apart5 hu h.row h1), fun j hj => (h.hd j hj).kept hg (rows_apart5 hu (h.hd j hj) h2)⟩
end
end Go.Proofs.Ytahkelgcamcfmaa

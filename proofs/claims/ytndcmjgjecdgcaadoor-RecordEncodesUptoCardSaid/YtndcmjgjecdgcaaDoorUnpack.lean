/- The contracts of wire.Unpack's methods. -/
import Derived.Test.YtndcmjgjecdgcaaDoorRead
import Derived.Test.YtndcmjgjecdgcaaDoorClone
import Derived.Test.YtndcmjgjecdgcaaDoorWirePackB
import Derived.RegionTactic
import Derived.ChangeAlike
import Derived.Deep.QuietTactic
import Derived.BigQuiet
import Derived.Laws.DeepNot64
namespace Go.Proofs.YtndcmjgjecdgcaaDoor
open Go.RowKit

namespace Wire
/-- the next number of what is left, l, where er is the first error; what is left then, and the error -/
def tInt (l : List UInt8) (er : Int) : Int × List UInt8 × Int :=
  if er ≠ 0 then (0, l, er) else match rd l with
    | .ok v n => (zag v, l.drop n, 0)
    | .short => (0, l, 20)
    | .wrong => (0, l, 21)
def tText (l : List UInt8) (er : Int) : List UInt8 × List UInt8 × Int :=
  if (tInt l er).2.2 ≠ 0 then ([], (tInt l er).2.1, (tInt l er).2.2)
  else if (tInt l er).1 < 0 then ([], (tInt l er).2.1, 21)
  else if 1048576 < (tInt l er).1 then ([], (tInt l er).2.1, 1)
  else if ((tInt l er).2.1.length : Int) < (tInt l er).1 then ([], (tInt l er).2.1, 20)
  else ((tInt l er).2.1.take (tInt l er).1.toNat, (tInt l er).2.1.drop (tInt l er).1.toNat, 0)
def tBool (l : List UInt8) (er : Int) : Bool × List UInt8 × Int :=
  if er ≠ 0 then (false, l, er) else match l with
    | [] => (false, l, 20)
    | b :: r => if 1 < b.toNat then (false, l, 21) else (b.toNat == 1, r, 0)
def tEnd (l : List UInt8) (er : Int) : Int := if er ≠ 0 then er else if l = [] then 0 else 22

theorem rdFrom_ok : ∀ (l : List UInt8) (i v : Nat), i ≤ 9 → v < 2 ^ (7 * i) → ∀ V n, rdFrom i v l = .ok V n → V < 2 ^ 64 ∧ i < n ∧ n ≤ 10 ∧ n ≤ i + l.length
  | [], _, _, _, _, _, _, h => by simp [rdFrom] at h
  | b :: r, i, v, hi, hv, V, n, h => by
    unfold rdFrom at h
    by_cases h9 : i = 9 ∧ 1 < b.toNat
    · rw [if_pos h9] at h; cases h
    · rw [if_neg h9] at h
      by_cases hb : 128 ≤ b.toNat
      · rw [if_pos hb] at h
        have hi8 : i ≤ 8 := by omega
        have := rdFrom_ok r (i + 1) _ (by omega) (next_lt hv b.toNat) V n h
        simp only [List.length_cons]
        omega
      · rw [if_neg hb] at h
        by_cases h0 : b.toNat = 0 ∧ 0 < i
        · rw [if_pos h0] at h; cases h
        · rw [if_neg h0] at h
          injection h with h1 h2
          subst h1 h2
          refine ⟨next_64 hv b.toNat (by omega), by omega, by omega, by simp only [List.length_cons]; omega⟩
theorem rd_ok {l : List UInt8} {V n : Nat} (h : rd l = .ok V n) : V < 2 ^ 64 ∧ 0 < n ∧ n ≤ 10 ∧ n ≤ l.length := by
  have := rdFrom_ok l 0 0 (by omega) (by simp) V n h
  omega
theorem tInt_len (l : List UInt8) (er : Int) : (tInt l er).2.1.length ≤ l.length := by
  unfold tInt
  split
  · exact Nat.le_refl _
  · split <;> simp
end Wire

/-- an Unpack in block u: what is left of s, and the first error -/
def UnIs (w : World) (u : Nat) (s : ByteArray) (l : List UInt8) (er : Int) : Prop :=
  u < w.heap.size ∧ ∃ at_ : Nat, at_ ≤ s.size ∧ l = s.data.toList.drop at_ ∧
    w.cell? ⟨u, 0, none⟩ = some (.string s) ∧ w.cell? ⟨u, 1, none⟩ = some (.int .i64 (at_ : Int)) ∧ w.cell? ⟨u, 2, none⟩ = some (.int .i64 er) ∧
    w.frozen? ⟨u, 1, none⟩ = false ∧ w.frozen? ⟨u, 2, none⟩ = false
theorem UnIs.below {w w' : World} {u B : Nat} {s : ByteArray} {l : List UInt8} {er : Int} (h : UnIs w u s l er) (hb : Below B w w') (hB : w.heap.size ≤ B) : UnIs w' u s l er := by
  obtain ⟨hu, a, h1, h2, h3, h4, h5, h6, h7⟩ := h
  have := hb.size
  have hlt : u < B := by omega
  exact ⟨by omega, a, h1, h2, (hb.cell (p := ⟨u, _, none⟩) hlt).trans h3, (hb.cell (p := ⟨u, _, none⟩) hlt).trans h4, (hb.cell (p := ⟨u, _, none⟩) hlt).trans h5, (hb.frozen (p := ⟨u, _, none⟩) hlt).trans h6, (hb.frozen (p := ⟨u, _, none⟩) hlt).trans h7⟩
theorem UnIs.grown {w w' : World} {u p : Nat} {s : ByteArray} {l : List UInt8} {er : Int} (h : UnIs w u s l er) (hg : w.grownBy w' (some p)) (hne : u ≠ p) : UnIs w' u s l er := by
  obtain ⟨hu, a, h1, h2, h3, h4, h5, h6, h7⟩ := h
  have := hg.size
  have hk : w'.heap[u]? = w.heap[u]? := hg.block u hu (by intro e; injection e with e; omega)
  exact ⟨by omega, a, h1, h2, (World.cell?_of_block (a := ⟨u, _, none⟩) hk).trans h3, (World.cell?_of_block (a := ⟨u, _, none⟩) hk).trans h4, (World.cell?_of_block (a := ⟨u, _, none⟩) hk).trans h5, (World.frozen?_of_block (a := ⟨u, _, none⟩) hk).trans h6, (World.frozen?_of_block (a := ⟨u, _, none⟩) hk).trans h7⟩
theorem UnIs.drewN {w : World} {u : Nat} {s : ByteArray} {l : List UInt8} {er : Int} (h : UnIs w u s l er) (n : Nat) : UnIs (w.drewN n) u s l er := h
theorem UnIs.err {w : World} {u : Nat} {s : ByteArray} {l : List UInt8} {er : Int} (h : UnIs w u s l er) (er' : Int) : UnIs (w.setCell ⟨u, 2, none⟩ (.int .i64 er')) u s l er' := by
  obtain ⟨hu, a, h1, h2, h3, h4, h5, h6, h7⟩ := h
  have hne : ∀ j, j ≠ 2 → (⟨u, 2, none⟩ : Addr) ≠ ⟨u, j, none⟩ := by intro j hj e; injection e with _ e2; exact hj e2.symm
  exact ⟨by rw [setCell_size]; exact hu, a, h1, h2, (World.cell?_setCell_other _ _ _ _ (hne 0 (by decide))).trans h3, (World.cell?_setCell_other _ _ _ _ (hne 1 (by decide))).trans h4, World.cell?_setCell_same _ _ _ h5, by rw [World.frozen?_setCell]; exact h6, by rw [World.frozen?_setCell]; exact h7⟩
theorem UnIs.move {w : World} {u : Nat} {s : ByteArray} {l : List UInt8} {er : Int} {a : Nat} (h : UnIs w u s l er) (ha : a ≤ s.size) : UnIs (w.setCell ⟨u, 1, none⟩ (.int .i64 (a : Int))) u s (s.data.toList.drop a) er := by
  obtain ⟨hu, _, _, _, h3, h4, h5, h6, h7⟩ := h
  have hne : ∀ j, j ≠ 1 → (⟨u, 1, none⟩ : Addr) ≠ ⟨u, j, none⟩ := by intro j hj e; injection e with _ e2; exact hj e2.symm
  exact ⟨by rw [setCell_size]; exact hu, a, ha, rfl, (World.cell?_setCell_other _ _ _ _ (hne 0 (by decide))).trans h3, World.cell?_setCell_same _ _ _ h4, (World.cell?_setCell_other _ _ _ _ (hne 2 (by decide))).trans h5, by rw [World.frozen?_setCell]; exact h6, by rw [World.frozen?_setCell]; exact h7⟩
theorem grown_set (w : World) (u j : Nat) (v : Value) : w.grownBy (w.setCell ⟨u, j, none⟩ v) (some u) :=
  ⟨rfl, rfl, rfl, by rw [setCell_size]; exact Nat.le_refl _, fun k hk hne => Below.heap_setCell _ _ _ k (by intro e; exact hne (by rw [e]))⟩
theorem grown_refl (w : World) (p : Option Nat) : w.grownBy w p := ⟨rfl, rfl, rfl, Nat.le_refl _, fun _ _ _ => rfl⟩
theorem grown_drewN {w w' : World} {p : Option Nat} (h : w.grownBy w' p) (n : Nat) : w.grownBy (w'.drewN n) p := ⟨h.os, h.tape, h.output, h.size, h.block⟩

theorem open_any (s : ByteArray) (w : World) :
    Calls Tryd.prog 26 #[.string s] w fun e w' => ∃ u, e = .returned (.pointer (some ⟨u, 0, none⟩)) ∧ u = w.heap.size ∧ UnIs w' u s s.data.toList 0 ∧ Below w.heap.size w w' := by
  go_enter Tryd.func26, Tryd.ntmps26
  go_wp2
  go_ret
  refine ⟨_, rfl, rfl, ⟨by simp, 0, by omega, by simp, ?_, ?_, ?_, ?_, ?_⟩, (Below.refl _ _).alloc (Nat.le_refl _) _⟩
  · rw [World.cell?_alloc_at _ _ _ _ rfl]; rfl
  · rw [World.cell?_alloc_at _ _ _ _ rfl]; rfl
  · rw [World.cell?_alloc_at _ _ _ _ rfl]; rfl
  · exact World.frozen?_alloc_at _ _ _ _ rfl
  · exact World.frozen?_alloc_at _ _ _ _ rfl

theorem stopped_raw (u : Nat) (er : Int) (w : World) (hc : w.cell? ⟨u, 2, none⟩ = some (.int .i64 er)) :
    Calls Tryd.prog 38 #[.pointer (some ⟨u, 0, none⟩)] w fun e w' => e = .returned (.bool (er != 0)) ∧ w = w' := by
  go_enter Tryd.func38, Tryd.ntmps38
  go_wp2
  go_ret
  exact ⟨rfl, rfl⟩
theorem stopped_nil (w : World) :
    Calls Tryd.prog 38 #[.pointer none] w fun e w' => e = .returned (.bool true) ∧ w = w' := by
  go_enter Tryd.func38, Tryd.ntmps38
  go_wp2
  go_ret
  exact ⟨rfl, rfl⟩
end Go.Proofs.YtndcmjgjecdgcaaDoor

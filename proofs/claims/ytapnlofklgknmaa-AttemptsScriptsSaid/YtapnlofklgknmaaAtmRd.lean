/- Package attempts: what may begin. -/
import Derived.Test.YtapnlofklgknmaaAtmFn
namespace Go.Proofs.Ytapnlofklgknmaa
open Go.RowKit

theorem live_fi {A : List Att} (h : 0 < lvA A) : fiA A < A.length := by
  unfold fiA lvA at *
  rw [List.findIdx_lt_length]
  obtain ⟨a, ha, hr⟩ := List.countP_pos_iff.1 h
  exact ⟨a, ha, hr⟩
def slowT (t : Tk) (nd last : Int) : Bool := (t.lv == 1) && (match t.A[t.fi]? with | some a => (a.nd != nd) && decide (a.bg ≤ last) | none => false)
/-- a cell behind a new block -/
theorem cell_al {w : World} {a : Addr} {v : Value} (h : w.cell? a = some v) : (∀ o, (w.alloc o).cell? a = some v) ∧ ∀ o, (w.drew.alloc o).cell? a = some v :=
  ⟨fun o => (((Below.refl w.heap.size w).alloc (Nat.le_refl _) o).cell (p := a) (World.block_lt_of_cell? w _ h)).trans h, fun o => (((Below.refl w.heap.size w).drew.alloc (Nat.le_refl _) o).cell (p := a) (World.block_lt_of_cell? w _ h)).trans h⟩
section
variable {B p tb : Nat} {w : World} {hs : Nat → Value} {b : Bd}
theorem att_at (h : RawAt B w p tb (rawB hs b)) {i j : Nat} (hi : i < b.n) (hj : j < (b.T i).A.length) : ∃ g c, hs i = .slice (some ⟨g, 0, none⟩) (b.T i).A.length c ∧ w.cell? ⟨g, j * 3, none⟩ = some (.int .i64 ((b.T i).A[j].st : Int)) ∧ w.cell? ⟨g, j * 3 + 1, none⟩ = some (.int .i64 (b.T i).A[j].nd) ∧ w.cell? ⟨g, j * 3 + 2, none⟩ = some (.int .i64 (b.T i).A[j].bg) := by
  have ho : w.ownsRow B 73 3 (hs i) (b.T i).A.length (atC (b.T i).A) := h.at' i hi
  obtain ⟨g, c, hv, _, _⟩ := ho.form (by omega)
  rw [hv] at ho
  obtain ⟨k0, k1, k2⟩ := atC_get (b.T i).A j hj
  exact ⟨g, c, hv, (ho.cellAt _ (by omega)).trans k0, (ho.cellAt _ (by omega)).trans k1, (ho.cellAt _ (by omega)).trans k2⟩
set_option maxHeartbeats 1000000 in
theorem slow_any (h : Hid (RawAt B w p tb (rawB hs b))) (i : Nat) (hi : i < b.n) (nd last : Int) : Calls Try.prog 31 #[.pointer (some ⟨tb, i * 5, none⟩), .int .i64 nd, .int .i64 last] w fun e w' => e = .returned (.bool (slowT (b.T i) nd last)) ∧ Below w.heap.size w w' := by
  have c2 : w.cell? ⟨tb, i * 5 + 2, none⟩ = some (.int .i64 ((b.T i).lv : Int)) := h.out.t2 i hi
  by_cases hl : (b.T i).lv = 1
  · have hf := live_fi (A := (b.T i).A) (by have : lvA (b.T i).A = 1 := hl; omega)
    obtain ⟨g, c, hv, k0, k1, k2⟩ := att_at h.out hi hf
    have c0 : w.cell? ⟨tb, i * 5, none⟩ = some (hs i) := h.out.t0 i hi
    rw [hv] at c0
    rw [hl] at c2
    obtain ⟨f, hfe⟩ : ∃ f, f = fiA (b.T i).A := ⟨_, rfl⟩
    obtain ⟨L, hL⟩ : ∃ L, L = (b.T i).A.length := ⟨_, rfl⟩
    have hs : slowT (b.T i) nd last = (((b.T i).A[fiA (b.T i).A].nd != nd) && decide ((b.T i).A[fiA (b.T i).A].bg ≤ last)) := by
      unfold slowT
      rw [show (b.T i).fi = fiA (b.T i).A from rfl, List.getElem?_eq_getElem hf, hl]
      rfl
    rw [hs]
    obtain ⟨x, hx⟩ : ∃ x, x = (b.T i).A[fiA (b.T i).A] := ⟨_, rfl⟩
    rw [← hx] at k0 k1 k2 ⊢
    have c1 : w.cell? ⟨tb, i * 5 + 1, none⟩ = some (.int .i64 (f : Int)) := by rw [hfe]; exact h.out.t1 i hi
    rw [← hfe] at k0 k1 k2 hf
    rw [← hL] at c0 hf
    obtain ⟨a0, b0⟩ := cell_al k0
    obtain ⟨a1, b1⟩ := cell_al k1
    obtain ⟨a2, b2⟩ := cell_al k2
    obtain ⟨a3, b3⟩ := cell_al c0
    obtain ⟨a4, b4⟩ := cell_al c1
    clear hx hs hfe hL hl hv
    cases h1 : (x.nd != nd)
    · rw [Bool.false_and]
      go_enter Try.func31, Try.ntmps31
      go_wp2_with (fail)
      go_region_with (fail)
      all_goals (try go_wp2)
      all_goals (go_ret; first | exact ⟨rfl, ((Below.refl w.heap.size w).drew).alloc (Nat.le_refl _) _⟩ | exact ⟨rfl, ((Below.refl w.heap.size w).alloc (Nat.le_refl _) _).drew⟩)
    · rw [Bool.true_and]
      go_enter Try.func31, Try.ntmps31
      go_wp2_with (fail)
      go_region_with (fail)
      all_goals (try go_wp2)
      all_goals (go_ret; first | exact ⟨rfl, ((Below.refl w.heap.size w).drew).alloc (Nat.le_refl _) _⟩ | exact ⟨rfl, ((Below.refl w.heap.size w).alloc (Nat.le_refl _) _).drew⟩)
  · have hs : slowT (b.T i) nd last = false := by
      unfold slowT
      rw [show ((b.T i).lv == 1) = false by simp [hl], Bool.false_and]
    rw [hs]
    have h1 : (((b.T i).lv : Int) != 1) = true := by simp; omega
    clear hs hl
    go_enter Try.func31, Try.ntmps31
    go_wp2
    go_ret
    exact ⟨rfl, Below.refl _ _⟩
theorem idle_any (h : Hid (RawAt B w p tb (rawB hs b))) (i : Nat) (hi : i < b.n) : Calls Try.prog 28 #[.pointer (some ⟨tb, i * 5, none⟩)] w fun e w' => e = .returned (.bool ((b.T i).lv == 0)) ∧ w' = w := by
  have c2 : w.cell? ⟨tb, i * 5 + 2, none⟩ = some (.int .i64 ((b.T i).lv : Int)) := h.out.t2 i hi
  have e : ((b.T i).lv == 0) = (((b.T i).lv : Int) == 0) := Bool.eq_iff_iff.2 (by simp only [beq_iff_eq]; omega)
  rw [e]
  go_enter Try.func28, Try.ntmps28
  go_wp2
  go_ret
  exact ⟨rfl, rfl⟩
end
section
variable {B p tb : Nat} {w : World} {hs : Nat → Value} {b : Bd}
theorem slowc_any (h : Hid (RawAt B w p tb (rawB hs b))) (i : Nat) (hi : i < b.n) (nd last : Int) (a1 a2 : Addr) (k1 : w.cell? a1 = some (.int .i64 nd)) (k2 : w.cell? a2 = some (.int .i64 last)) : Calls Try.prog 30 #[.pointer (some ⟨tb, i * 5, none⟩), .pointer (some a1), .pointer (some a2)] w fun e w' => e = .returned (.bool (slowT (b.T i) nd last)) ∧ Below w.heap.size w w' := by
  go_enter Try.func30, Try.ntmps30
  go_wp2_with (fail)
  refine (slow_any h i hi nd last).mono ?_
  rintro e w' ⟨rfl, hb⟩
  have HB := Lib.hid hb
  clear hb
  go_wp2
  go_ret
  exact ⟨rfl, HB.out⟩
end
end Go.Proofs.Ytapnlofklgknmaa

/- The reference's Near: each time the first of those that are left. -/
import Derived.Test.YtjjmflkdfgneoaaNearIs
import Derived.Test.YtjjmflkdfgneoaaWhereFnsC
import Derived.BigQuiet
import Derived.Deep.RegionWith
namespace Go.Proofs.Ytjjmflkdfgneoaa
open Go.RowKit

set_option maxRecDepth 100000 in
set_option maxHeartbeats 2000000 in
theorem ahead_any (n cap : Nat) (b off : Nat) (p1 p2 : Nat) (ca cb : Nat → Nat) (w : World) (hn : n ≤ 35184372088832) (dst : Nat → Int) (hdst : dst = fun i => distO (plc p1 p2) (plc (ca i) (cb i))) (i k : Nat) (hi : i < n) (hk : k < n)
    (hci : w.cell? ⟨b, off + i, none⟩ = some (.complex .f64 (ca i) (cb i))) (hck : w.cell? ⟨b, off + k, none⟩ = some (.complex .f64 (ca k) (cb k))) (hlo : ∀ i, -1 ≤ dst i ∧ dst i < 9223372036854775807) :
    Calls Try.prog 21 #[.complex .f64 p1 p2, .slice (some ⟨b, off, none⟩) n cap, .int .i64 (i : Int), .int .i64 (k : Int)] w fun e w' => e = .returned (.bool (decide (farI (dst i) < farI (dst k) ∨ (farI (dst i) = farI (dst k) ∧ i < k)))) ∧ ∃ m, w' = w.drewN m := by
  have h1 := fun w => refdist_any p1 p2 (ca i) (cb i) w
  have h2 := fun w => refdist_any p1 p2 (ca k) (cb k) w
  have e1 : ∀ i, distO (plc p1 p2) (plc (ca i) (cb i)) = dst i := fun i => by rw [hdst]
  rw [e1] at h1 h2
  have l1 := hlo i
  have l2 := hlo k
  obtain ⟨x, hx⟩ : ∃ x, x = dst i := ⟨_, rfl⟩
  obtain ⟨y, hy⟩ : ∃ y, y = dst k := ⟨_, rfl⟩
  rw [← hx] at h1 l1 ⊢
  rw [← hy] at h2 l2 ⊢
  have H1 := Lib.hid h1
  have H2 := Lib.hid h2
  have i1 : (i : Int) < (n : Int) := by omega
  have i2 : (k : Int) < (n : Int) := by omega
  have hcase : ∀ r : Bool, r = decide (farI x < farI y ∨ (farI x = farI y ∧ i < k)) → (x = y ∧ r = decide (i < k)) ∨ (x ≠ y ∧ y < 0 ∧ 0 ≤ x ∧ r = true) ∨ (x ≠ y ∧ x < 0 ∧ 0 ≤ y ∧ r = false) ∨ (x ≠ y ∧ 0 ≤ x ∧ 0 ≤ y ∧ r = decide (x < y)) := by
    rintro r rfl
    rcases (show x = y ∨ (x ≠ y ∧ y < 0 ∧ 0 ≤ x) ∨ (x ≠ y ∧ x < 0 ∧ 0 ≤ y) ∨ (x ≠ y ∧ 0 ≤ x ∧ 0 ≤ y) by omega) with q | ⟨q1, q2, q3⟩ | ⟨q1, q2, q3⟩ | ⟨q1, q2, q3⟩
    · refine .inl ⟨q, ?_⟩
      subst q
      rw [decide_eq_decide]
      omega
    · refine .inr (.inl ⟨q1, q2, q3, ?_⟩)
      rw [decide_eq_true_iff]
      unfold farI
      rw [if_neg (by omega), if_pos q2]
      omega
    · refine .inr (.inr (.inl ⟨q1, q2, q3, ?_⟩))
      rw [decide_eq_false_iff_not]
      unfold farI
      rw [if_pos q2, if_neg (by omega)]
      omega
    · refine .inr (.inr (.inr ⟨q1, q2, q3, ?_⟩))
      rw [decide_eq_decide]
      unfold farI
      rw [if_neg (by omega), if_neg (by omega)]
      omega
  obtain ⟨r, hr⟩ : ∃ r, r = decide (farI x < farI y ∨ (farI x = farI y ∧ i < k)) := ⟨_, rfl⟩
  rw [← hr]
  have HC := Lib.hid (hcase r hr)
  clear h1 h2 e1 hdst hlo hx hy hr hcase
  go_enter Try.func21, Try.ntmps21
  go_wp2_with (fail)
  go_region_with (go_at_call 13; first | ((with_reducible refine (H1.out _).mono ?_); rintro e w' ⟨rfl, rfl⟩) | ((with_reducible refine (H2.out _).mono ?_); rintro e w' ⟨rfl, rfl⟩))
  all_goals
    rcases HC.out with ⟨q1, q4⟩ | ⟨q1, q2, q3, q4⟩ | ⟨q1, q2, q3, q4⟩ | ⟨q1, q2, q3, q4⟩
    · subst q1
      go_wp2
      go_ret
      exact ⟨by first | rfl | (rw [q4]; done) | (rw [q4]; rfl), _, rfl⟩
    · have t1 : (x == y) = false := by simpa using q1
      have HQ := Lib.hid q4
      clear q4
      go_wp2
      go_ret
      exact ⟨by first | (rw [HQ.out]; done) | (rw [HQ.out]; rfl) | (rw [HQ.out]; simp; done) | (rw [HQ.out]; simp; omega), _, rfl⟩
    · have t1 : (x == y) = false := by simpa using q1
      have HQ := Lib.hid q4
      clear q4
      go_wp2
      go_ret
      exact ⟨by first | (rw [HQ.out]; done) | (rw [HQ.out]; rfl) | (rw [HQ.out]; simp; done) | (rw [HQ.out]; simp; omega), _, rfl⟩
    · have t1 : (x == y) = false := by simpa using q1
      have HQ := Lib.hid q4
      clear q4
      go_wp2
      go_ret
      exact ⟨by first | (rw [HQ.out]; done) | (rw [HQ.out]; rfl) | (rw [HQ.out]; simp; done) | (rw [HQ.out]; simp; omega), _, rfl⟩
end Go.Proofs.Ytjjmflkdfgneoaa

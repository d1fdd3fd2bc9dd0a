/- The laws' own speaks: the nearer task is taken. -/
import Derived.Test.YtahkelgcamcfmaaPlnPts
namespace Go.Proofs.Ytahkelgcamcfmaa
open Go.RowKit

theorem plc_num (a : Nat) (x : Int) (e : floatOfInt .f64 x = a) (h : -1000 ≤ x ∧ x ≤ 1000) : plc a 0 = some (x, 0) :=
  plc_of ⟨by rw [← e]; exact fl_of x (by omega), h.1, h.2⟩ ⟨nought_fl, by decide, by decide⟩
noncomputable def tks23 (m : Nat) : Nat → Tsk
  | 0 => ⟨0, some ⟨m, 0, none⟩, 1, 1, fun _ => 4617315517961601024, fun _ => 0⟩
  | _ => ⟨0, some ⟨m + 1, 0, none⟩, 2, 2, fun j => if j = 0 then 4607182418800017408 else 4621256167635550208, fun _ => 0⟩
theorem far23 (m : Nat) : (pckN (fun i => (tks23 m i).far 4620693217682128896 0) 2).1 = 1 := by
  have p8 := plc_num 4620693217682128896 8 (by decide +kernel) (by decide)
  have p5 := plc_num 4617315517961601024 5 (by decide +kernel) (by decide)
  have p1 := plc_num 4607182418800017408 1 (by decide +kernel) (by decide)
  have p9 := plc_num 4621256167635550208 9 (by decide +kernel) (by decide)
  have f0 : (tks23 m 0).far 4620693217682128896 0 = 9 := by
    show (if _ then _ else _) = _
    simp only [farN, tks23, p8, p5, distO]
    decide
  have f1 : (tks23 m 1).far 4620693217682128896 0 = 1 := by
    show (if _ then _ else _) = _
    simp only [farN, tks23, p8, p1, p9, distO, if_true, if_false, Nat.one_ne_zero]
    decide
  simp only [pckN, f0, f1]
  decide
set_option maxRecDepth 100000 in
set_option maxHeartbeats 4000000 in
theorem speaks23_any (w : World) : Calls Try.prog 6 #[] w fun e w' => e = .returned (.bool true) ∧ Below w.heap.size w w' := by
  have hT : ∀ w1 : World, w1 = (((w.alloc (.cells #[.complex .f64 4617315517961601024 0] 35)).alloc (.cells #[.complex .f64 4607182418800017408 0, .complex .f64 4621256167635550208 0] 35)).alloc (.cells #[.int .i64 0, .slice (some ⟨w.heap.size, 0, none⟩) 1 1, .int .i64 0, .slice (some ⟨w.heap.size + 1, 0, none⟩) 2 2] 30)) →
      Calls Try.prog 11 #[.slice (some ⟨w.heap.size + 1 + 1, 0, none⟩) 2 2, .complex .f64 4620693217682128896 0] w1 fun e w' => e = .returned (.int .i64 1) ∧ Below w.heap.size w w' := fun w1 hw => by
    have hs : w1.heap.size = w.heap.size + 1 + 1 + 1 := by rw [hw]; simp
    have hbel : Below w.heap.size w w1 := by
      rw [hw]
      exact (((Below.refl _ w).alloc (Nat.le_refl _) _).alloc (by simp) _).alloc (by simp; omega) _
    have hp := pick_any (some ⟨w.heap.size + 1 + 1, 0, none⟩) 2 2 (tks23 w.heap.size) 4620693217682128896 0 w1 (by omega) _ rfl (fun i hi => by
      match i, hi with
      | 0, _ => exact ⟨⟨by show (1 : Nat) ≤ _; omega, fun j hj => ⟨w.heap.size, 0, rfl, by omega, by
          have hj' : j < 1 := hj
          obtain rfl : j = 0 := by omega
          rw [hw]; simp [tks23, go_sem]⟩⟩, w.heap.size + 1 + 1, 0, rfl, by omega, by rw [hw]; simp [tks23, go_sem], by rw [hw]; simp [tks23, go_sem]⟩
      | 1, _ => exact ⟨⟨by show (2 : Nat) ≤ _; omega, fun j hj => ⟨w.heap.size + 1, 0, rfl, by omega, by
          have hj' : j < 2 := hj
          have c : j = 0 ∨ j = 1 := by omega
          rcases c with rfl | rfl <;> (rw [hw]; simp [tks23, go_sem])⟩⟩, w.heap.size + 1 + 1, 0, rfl, by omega, by rw [hw]; simp [tks23, go_sem], by rw [hw]; simp [tks23, go_sem]⟩)
    rw [far23] at hp
    exact hp.mono fun _ _ ⟨he, hb⟩ => ⟨he, hbel.trans (hb.mono (by omega))⟩
  have HT := Lib.hid (hT _ rfl)
  clear hT
  go_enter Try.func6, Try.ntmps6
  go_wp2_with (fail)
  refine HT.out.mono ?_
  rintro e w' ⟨rfl, hb⟩
  have HB := Lib.hid hb
  clear hb HT
  go_wp2
  go_ret
  exact ⟨rfl, HB.out⟩
end Go.Proofs.Ytahkelgcamcfmaa

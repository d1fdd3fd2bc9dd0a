/- Package attempts: the small functions. -/
import Derived.Test.YtapnlofklgknmaaAtmSt
import Derived.Deep.RegionHeld3
import Derived.StillTailTactics
import Derived.Deep.DeepCutAuto
import Derived.Deep.RegionLaw
namespace Go.Proofs.Ytapnlofklgknmaa
open Go.RowKit

theorem moment_any (n : Int) (w : World) : Calls Try.prog 29 #[.int .i64 n] w fun e w' => e = .returned (.int .i64 (mom n)) ∧ w = w' := by
  rcases Int.lt_or_le n 0 with h | h
  · rw [show mom n = 0 by unfold mom; omega]
    go_enter Try.func29, Try.ntmps29
    go_wp2
    go_ret
    exact ⟨rfl, rfl⟩
  · rcases Int.lt_or_le 1099511627776 n with h2 | h2
    · rw [show mom n = 1099511627776 by unfold mom; omega]
      go_enter Try.func29, Try.ntmps29
      go_wp2
      go_ret
      exact ⟨rfl, rfl⟩
    · rw [show mom n = n by unfold mom; omega]
      go_enter Try.func29, Try.ntmps29
      go_wp2
      go_ret
      exact ⟨rfl, rfl⟩
def cnt (n : Int) : Nat := (min (max n 0) 4096).toNat
theorem cnt_b (n : Int) : cnt n ≤ 4096 := by unfold cnt; omega
theorem count_any (n : Int) (w : World) : Calls Try.prog 26 #[.int .i64 n] w fun e w' => e = .returned (.int .i64 (cnt n : Int)) ∧ w = w' := by
  rcases Int.lt_or_le n 0 with h | h
  · rw [show (cnt n : Int) = 0 by unfold cnt; omega]
    go_enter Try.func26, Try.ntmps26
    go_wp2
    go_ret
    exact ⟨rfl, rfl⟩
  · rcases Int.lt_or_le 4096 n with h2 | h2
    · rw [show (cnt n : Int) = 4096 by unfold cnt; omega]
      go_enter Try.func26, Try.ntmps26
      go_wp2
      go_ret
      exact ⟨rfl, rfl⟩
    · rw [show (cnt n : Int) = n by unfold cnt; omega]
      go_enter Try.func26, Try.ntmps26
      go_wp2
      go_ret
      exact ⟨rfl, rfl⟩
section
variable {B p tb : Nat} {w : World} {q : Raw}
theorem done_any (h : Hid (RawAt B w p tb q)) (i : Nat) (hi : i < q.n) : Calls Try.prog 42 #[.pointer (some ⟨tb, i * 5, none⟩)] w fun e w' => e = .returned (.bool ((q.R i).wi != 0)) ∧ w = w' := by
  have c4 := h.out.t4 i hi
  go_enter Try.func42, Try.ntmps42
  go_wp2
  go_ret
  exact ⟨rfl, rfl⟩
theorem isMap_any (h : Hid (RawAt B w p tb q)) (x : Int) : Calls Try.prog 41 #[.pointer (some ⟨p, 0, none⟩), .int .i64 x] w fun e w' => e = .returned (.bool (decide (x < (q.m : Int)))) ∧ w = w' := by
  have c0 := h.out.c0
  go_enter Try.func41, Try.ntmps41
  go_wp2
  go_ret
  exact ⟨rfl, rfl⟩
/-- the pointer to a task -/
def ptrT (tb n : Nat) (x : Int) : Value := if 0 ≤ x ∧ x < (n : Int) then .pointer (some ⟨tb, x.toNat * 5, none⟩) else .pointer none
set_option maxHeartbeats 1000000 in
theorem find_any (h : Hid (RawAt B w p tb q)) (x : Int) : Calls Try.prog 36 #[.pointer (some ⟨p, 0, none⟩), .int .i64 x] w fun e w' => e = .returned (ptrT tb q.n x) ∧ w = w' := by
  have c1 := h.out.c1
  unfold ptrT
  by_cases h1 : x < 0
  · rw [if_neg (by omega)]
    go_enter Try.func36, Try.ntmps36
    go_wp2
    go_ret
    exact ⟨rfl, rfl⟩
  · by_cases h2 : x < (q.n : Int)
    · rw [if_pos ⟨by omega, h2⟩]
      obtain ⟨k, rfl⟩ : ∃ k : Nat, x = (k : Int) := ⟨x.toNat, by omega⟩
      have hk : k < q.n := by omega
      clear h2
      go_enter Try.func36, Try.ntmps36
      go_wp2
      go_ret
      exact ⟨rfl, rfl⟩
    · rw [if_neg (by omega)]
      go_enter Try.func36, Try.ntmps36
      go_wp2
      go_ret
      exact ⟨rfl, rfl⟩
theorem find_nil (x : Int) (w : World) : Calls Try.prog 36 #[.pointer none, .int .i64 x] w fun e w' => e = .returned (.pointer none) ∧ w = w' := by
  go_enter Try.func36, Try.ntmps36
  go_wp2
  go_ret
  exact ⟨rfl, rfl⟩
/-- may the task with this number begin? -/
def mayR (q : Raw) (x : Int) : Bool := decide (0 ≤ x ∧ x < (q.n : Int)) && ((q.R x.toNat).wi == 0) && (decide (x < (q.m : Int)) || (q.om == 0))
set_option maxHeartbeats 4000000 in
theorem may_any (h : Hid (RawAt B w p tb q)) (x : Int) : Calls Try.prog 33 #[.pointer (some ⟨p, 0, none⟩), .int .i64 x] w fun e w' => e = .returned (.bool (mayR q x)) ∧ w = w' := by
  have hf := find_any h x
  by_cases hx : 0 ≤ x ∧ x < (q.n : Int)
  · rw [ptrT, if_pos hx] at hf
    obtain ⟨k, rfl⟩ : ∃ k : Nat, x = (k : Int) := ⟨x.toNat, by omega⟩
    have hk : k < q.n := by omega
    have hd := done_any h k hk
    have hm := isMap_any h (k : Int)
    have c4 := h.out.c4
    rw [show mayR q (k : Int) = (((q.R k).wi == 0) && (decide ((k : Int) < (q.m : Int)) || (q.om == 0))) by simp [mayR, hk]]
    rw [show ((k : Int).toNat) = k by omega] at hf
    clear hx
    by_cases hw : (q.R k).wi = 0
    · have e0 : ((q.R k).wi == 0) = true := by simp [hw]
      have e1 : ((q.R k).wi != 0) = false := by simp [hw]
      rw [e1] at hd
      rw [e0, Bool.true_and]
      by_cases hkm : (k : Int) < (q.m : Int)
      · rw [decide_eq_true hkm] at hm ⊢
        rw [Bool.true_or]
        clear hw e0 e1 c4
        go_enter Try.func33, Try.ntmps33
        go_wp2_with (fail)
        refine hf.mono ?_
        rintro e w' ⟨rfl, rfl⟩
        go_wp2_with (fail)
        refine hd.mono ?_
        rintro e w' ⟨rfl, rfl⟩
        go_wp2_with (fail)
        refine hm.mono ?_
        rintro e w' ⟨rfl, rfl⟩
        go_wp2
        go_ret
        exact ⟨rfl, rfl⟩
      · rw [decide_eq_false hkm] at hm ⊢
        rw [Bool.false_or]
        clear hw e0 e1 hkm
        go_enter Try.func33, Try.ntmps33
        go_wp2_with (fail)
        refine hf.mono ?_
        rintro e w' ⟨rfl, rfl⟩
        go_wp2_with (fail)
        refine hd.mono ?_
        rintro e w' ⟨rfl, rfl⟩
        go_wp2_with (fail)
        refine hm.mono ?_
        rintro e w' ⟨rfl, rfl⟩
        go_wp2
        go_ret
        exact ⟨rfl, rfl⟩
    · have e0 : ((q.R k).wi == 0) = false := by simp [hw]
      have e1 : ((q.R k).wi != 0) = true := by simp [hw]
      rw [e1] at hd
      rw [e0, Bool.false_and]
      clear hw e0 e1 c4 hm
      go_enter Try.func33, Try.ntmps33
      go_wp2_with (fail)
      refine hf.mono ?_
      rintro e w' ⟨rfl, rfl⟩
      go_wp2_with (fail)
      refine hd.mono ?_
      rintro e w' ⟨rfl, rfl⟩
      go_wp2
      go_ret
      exact ⟨rfl, rfl⟩
  · rw [ptrT, if_neg hx] at hf
    rw [show mayR q x = false by simp only [mayR, decide_eq_false hx, Bool.false_and]]
    go_enter Try.func33, Try.ntmps33
    go_wp2_with (fail)
    refine hf.mono ?_
    rintro e w' ⟨rfl, rfl⟩
    go_wp2
    go_ret
    exact ⟨rfl, rfl⟩
theorem may_nil (x : Int) (w : World) : Calls Try.prog 33 #[.pointer none, .int .i64 x] w fun e w' => e = .returned (.bool false) ∧ w = w' := by
  go_enter Try.func33, Try.ntmps33
  go_wp2_with (fail)
  refine (find_nil x _).mono ?_
  rintro e w' ⟨rfl, rfl⟩
  go_wp2
  go_ret
  exact ⟨rfl, rfl⟩
end
end Go.Proofs.Ytapnlofklgknmaa

/- Package plan: isNearer and Far, as functions of the distances. -/
import Derived.Test.YtilobnplmkmmpaaWhereFnsB
import Derived.Test.YtilobnplmkmmpaaSlices
import Derived.BigQuiet
namespace Go.Proofs.Ytilobnplmkmmpaa
open Go.RowKit

def nearB (a b : Int) : Bool := decide (¬ a = -1) && (decide (b = -1) || decide (a < b))
theorem nearer_any (a b : Int) (w : World) : Calls Try.prog 19 #[.int .i64 a, .int .i64 b] w fun e w' => e = .returned (.bool (nearB a b)) ∧ w = w' := by
  by_cases h1 : a = -1
  · have e : nearB a b = false := by simp [nearB, h1]
    rw [e]
    go_enter Try.func19, Try.ntmps19
    go_wp2
    go_ret
    exact ⟨rfl, rfl⟩
  · by_cases h2 : b = -1
    · have e : nearB a b = true := by simp [nearB, h1, h2]
      rw [e]
      go_enter Try.func19, Try.ntmps19
      go_wp2
      go_ret
      exact ⟨by simp [h1, h2], rfl⟩
    · by_cases h3 : a < b
      · have e : nearB a b = true := by simp [nearB, h1, h2, h3]
        rw [e]
        go_enter Try.func19, Try.ntmps19
        go_wp2
        go_ret
        exact ⟨by simp [h1, h2, h3], rfl⟩
      · have e : nearB a b = false := by simp [nearB, h1, h2, h3]
        rw [e]
        go_enter Try.func19, Try.ntmps19
        go_wp2
        go_ret
        exact ⟨by simp [h1, h2, h3], rfl⟩
/-- the least of the first n distances that are some; -1, where there is none -/
def farN (D : Nat → Int) : Nat → Int
  | 0 => -1
  | n + 1 => if nearB (D n) (farN D n) then D n else farN D n
theorem farN_yes {D : Nat → Int} {n : Nat} (h : nearB (D n) (farN D n) = true) : farN D (n + 1) = D n := by show (if _ then _ else _) = _; rw [if_pos h]
theorem farN_no {D : Nat → Int} {n : Nat} (h : nearB (D n) (farN D n) = false) : farN D (n + 1) = farN D n := by show (if _ then _ else _) = _; rw [if_neg (by simp [h])]
set_option maxRecDepth 100000 in
set_option maxHeartbeats 2000000 in
theorem far_any (id : Int) (A : Option Addr) (n cap : Nat) (a b : Nat) (ca cb : Nat → Nat) (w : World) (hn : n ≤ 1048576) (D : Nat → Int) (hD : D = fun i => distO (plc a b) (plc (ca i) (cb i))) (hS : SlOf w w.heap.size A n (fun i => .complex .f64 (ca i) (cb i))) :
    Calls Try.prog 18 #[.agg #[.int .i64 id, .slice A n cap], .complex .f64 a b] w fun e w' => e = .returned (.int .i64 (farN D n)) ∧ Below w.heap.size w w' := by
  have HD := Lib.hid hD
  have HB := Lib.hid ((Below.refl w.heap.size w).alloc (Nat.le_refl _) (.cells #[.int .i64 id, .slice A n cap] 31))
  have HS := Lib.hid (hS.below HB.out)
  clear hD hS
  go_enter Try.func18, Try.ntmps18
  go_wp2
  go_loop [5, 12] (fun l i => ∃ k : Nat, k ≤ n ∧ i = .int .i64 (k : Int) ∧ l = .int .i64 (farN D k)) (fun _ i => n - (intOf i).toNat)
  case atStart => exact ⟨0, Nat.zero_le _, rfl, rfl⟩
  case round =>
    obtain ⟨k, hkn, rfl, rfl⟩ := hrel
    by_cases hlt : k < n
    · obtain ⟨g, off, rfl, _, c1⟩ := HS.out k hlt
      have hd : ∀ w1 : World, Calls Try.prog 27 #[.complex .f64 a b, .complex .f64 (ca k) (cb k)] w1 fun e w' => e = .returned (.int .i64 (D k)) ∧ w1 = w' := fun w1 => by
        have := dist_any a b (ca k) (cb k) w1
        rw [HD.out]
        exact this
      have hn' := fun w1 => nearer_any (D k) (farN D k) w1
      cases hq : nearB (D k) (farN D k) with
      | true =>
        have hs := Lib.hid (farN_yes hq)
        rw [hq] at hn'
        clear hq
        go_wp2_with (fail)
        refine (hd _).mono ?_
        rintro e w' ⟨rfl, rfl⟩
        go_wp2_with (fail)
        refine (hn' _).mono ?_
        rintro e w' ⟨rfl, rfl⟩
        go_wp2
        go_round
        case rel => exact ⟨k + 1, by omega, by first | rfl | go_num, by rw [hs.out]⟩
        case measure => simp [intOf]; omega
      | false =>
        have hs := Lib.hid (farN_no hq)
        rw [hq] at hn'
        clear hq
        go_wp2_with (fail)
        refine (hd _).mono ?_
        rintro e w' ⟨rfl, rfl⟩
        go_wp2_with (fail)
        refine (hn' _).mono ?_
        rintro e w' ⟨rfl, rfl⟩
        go_wp2
        go_round
        case rel => exact ⟨k + 1, by omega, by first | rfl | go_num, by rw [hs.out]⟩
        case measure => simp [intOf]; omega
    · obtain rfl : k = n := by omega
      go_wp2
      go_ret
      exact ⟨rfl, HB.out⟩
end Go.Proofs.Ytilobnplmkmmpaa

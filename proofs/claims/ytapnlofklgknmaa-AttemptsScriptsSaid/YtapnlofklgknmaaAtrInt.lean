/- Two lists of the same ints are the same (mahoutlaw22.ints). -/
import Derived.Test.YtapnlofklgknmaaAtmTh
namespace Go.Proofs.Ytapnlofklgknmaa
open Go.RowKit
set_option maxRecDepth 100000 in
set_option maxHeartbeats 4000000 in
theorem ints_any (A C : Option Addr) (n cap cap' : Nat) (l : List Nat) (w : World) (B1 B2 : Nat) (hl : n = l.length) (hn : n ≤ 1099511627776)
    (hA : w.ownsRow B1 3 1 (.slice A n cap) n (intL l)) (hC : w.ownsRow B2 3 1 (.slice C n cap') n (intL l)) :
    Calls Try.prog 21 #[.slice A n cap, .slice C n cap'] w fun e w' => e = .returned (.bool true) ∧ ∃ m, w' = w.drewN m := by
  have HA := Lib.hid hA
  have HC := Lib.hid hC
  clear hA hC
  go_enter Try.func21, Try.ntmps21
  go_wp2
  go_loopw [5] (fun i wr => ∃ k : Nat, k ≤ n ∧ i = .int .i64 k ∧ ∃ m, wr = w.drewN m) (fun i _ => n - (intOf i).toNat)
  case atStart => exact ⟨0, Nat.zero_le _, rfl, 0, rfl⟩
  case round =>
    obtain ⟨k, hk, rfl, m, rfl⟩ := hrel
    by_cases hlt : k < n
    · obtain ⟨g, c1, e, _, _⟩ := HA.out.form (by omega)
      obtain ⟨g', c2, e', _, _⟩ := HC.out.form (by omega)
      injection e with e1 e2 e3
      injection e' with e1' e2' e3'
      subst e1 e3 e1' e3'
      have hlk : k < l.length := by omega
      have k1 : w.cell? ⟨g, k, none⟩ = some (.int .i64 (l[k] : Int)) := by
        refine (HA.out.cellAt k (by omega)).trans ?_
        simp [intL, hlk]
      have k2 : w.cell? ⟨g', k, none⟩ = some (.int .i64 (l[k] : Int)) := by
        refine (HC.out.cellAt k (by omega)).trans ?_
        simp [intL, hlk]
      clear e2 e2'
      go_wp2_with (fail)
      go_quiet (fail)
      go_wp2
      go_roundw
      case rel => exact ⟨k + 1, by omega, by go_num, _, rfl⟩
      case measure => simp [intOf]; omega
    · go_wp2
      go_ret
      exact ⟨rfl, m, rfl⟩
end Go.Proofs.Ytapnlofklgknmaa

/- Package disk: an append is torn. -/
import Derived.Test.YtmlikkjahkdilaaGreatDoorDiskSyn2
namespace Go.Proofs.YtmlikkjahkdilaaGreatDoor
open Go.RowKit Go.Maps

set_option maxRecDepth 100000 in
set_option maxHeartbeats 4000000 in
theorem torn_any (t : Int) (name data : ByteArray) (w : World) (ht : 0 < t) (hd : data.size ≤ 1099511627776) :
    Calls Tryz.prog 35 #[.agg #[.string name, .string data], .int .i64 t] w fun e w' => e = .returned (.agg #[.string name, .string (data.extract 0 (min t.toNat data.size))]) ∧ Below w.heap.size w w' := by
  by_cases h : t < data.size
  · obtain ⟨n, rfl⟩ : ∃ n : Nat, t = n := ⟨t.toNat, by omega⟩
    rw [show min (n : Int).toNat data.size = n by omega]
    have h1 : (n : Int) ≤ (data.size : Int) := by omega
    go_enter Tryz.func35, Tryz.ntmps35
    go_wp2
    exact bodyPost_ret (v := .agg #[.string name, .string (data.extract 0 n)]) (by simp [results, Tryz.results35, go_sem]) rfl ⟨rfl, ((Below.refl _ w).alloc (Nat.le_refl _) _).alloc (by simp) _⟩
  · rw [show min t.toNat data.size = data.size by omega, show data.extract 0 data.size = data by simp]
    rcases Int.lt_or_le (data.size : Int) t with hlt | hle
    case inr =>
      obtain rfl : t = (data.size : Int) := by omega
      go_enter Tryz.func35, Tryz.ntmps35
      go_wp2
      all_goals first
        | exact bodyPost_ret (v := .agg #[.string name, .string data]) (by simp [results, Tryz.results35, go_sem]) rfl ⟨rfl, ((Below.refl _ w).alloc (Nat.le_refl _) _).alloc (by simp) _⟩
    go_enter Tryz.func35, Tryz.ntmps35
    go_wp2
    all_goals first
      | exact bodyPost_ret (v := .agg #[.string name, .string data]) (by simp [results, Tryz.results35, go_sem]) rfl ⟨rfl, ((Below.refl _ w).alloc (Nat.le_refl _) _).alloc (by simp) _⟩
end Go.Proofs.YtmlikkjahkdilaaGreatDoor

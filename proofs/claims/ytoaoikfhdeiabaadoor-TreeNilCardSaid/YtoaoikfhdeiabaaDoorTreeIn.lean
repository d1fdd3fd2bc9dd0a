/- Package tree: a directory's room, how many stand below; which kind of node. -/
import Derived.Test.YtoaoikfhdeiabaaDoorTreeFns
namespace Go.Proofs.YtoaoikfhdeiabaaDoor
open Go.RowKit

theorem as_dir (v : Value) (x : TypeId) (w : World) : (Instr.typeAssert (.iface 56 v) x 56 true).run Tryd.prog w = .ok (.tuple #[v, .bool true]) w := by
  simp [Instr.typeAssert, run_underlying Tryd.underlying56]
theorem as_no_dir (v : Value) (x : TypeId) (w : World) : (Instr.typeAssert (.iface 72 v) x 56 true).run Tryd.prog w = .ok (.tuple #[.pointer none, .bool false]) w := by
  simp [Instr.typeAssert, run_underlying Tryd.underlying56]
set_option maxHeartbeats 1000000 in
theorem room_free (d : Nat) (n c : Int) (w : World) (hq : w.cell? ⟨d, 0, none⟩ = some (.int .i64 0)) (hc : w.cell? ⟨d, 1, none⟩ = some (.int .i64 c)) :
    Calls Tryd.prog 66 #[.pointer (some ⟨d, 0, none⟩), .int .i64 n] w fun e w' => e = .returned (.bool true) ∧ Below w.heap.size w w' := by
  go_enter Tryd.func66, Tryd.ntmps66
  go_wp2
  go_quiet (fail)
  go_wp2
  go_ret
  exact ⟨rfl, below_drew _ _⟩
set_option maxHeartbeats 1000000 in
theorem below_file (f : Nat) (w : World) : Calls Tryd.prog 114 #[.pointer (some ⟨f, 0, none⟩)] w fun e w' => e = .returned (.int .i64 0) ∧ w = w' := by
  go_enter Tryd.func114, Tryd.ntmps114
  go_wp2
  go_ret
  exact ⟨rfl, rfl⟩
set_option maxHeartbeats 1000000 in
theorem below_dir (d : Nat) (c : Int) (w : World) (hc : w.cell? ⟨d, 1, none⟩ = some (.int .i64 c)) : Calls Tryd.prog 111 #[.pointer (some ⟨d, 0, none⟩)] w fun e w' => e = .returned (.int .i64 c) ∧ w = w' := by
  go_enter Tryd.func111, Tryd.ntmps111
  go_wp2
  go_ret
  exact ⟨rfl, rfl⟩
end Go.Proofs.YtoaoikfhdeiabaaDoor

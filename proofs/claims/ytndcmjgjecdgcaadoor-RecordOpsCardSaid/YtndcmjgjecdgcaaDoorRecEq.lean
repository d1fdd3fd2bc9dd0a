/- What '==' says of two blocks. -/
import Derived.Test.YtndcmjgjecdgcaaDoorRecOpArg
import Derived.Laws.StructEq
namespace Go.Proofs.YtndcmjgjecdgcaaDoor
theorem eqBlk (a b c a' b' c' : Int) (w : World) : (binOp .eql 45 (.agg #[.int .i64 a, .int .i64 b, .int .i64 c]) (.agg #[.int .i64 a', .int .i64 b', .int .i64 c'])).run Tryd.prog w = .ok (.bool (a == a' && b == b' && c == c')) w := by
  have hS : Tryd.prog.underlying 45 = some (.struct (Tryd.prog.fieldsOf 45)) := by kernel_rfl
  have hp : Tryd.prog.stoodInHeld 45 = false := by kernel_rfl
  have u3 := Tryd.underlying3
  rw [run_eql_struct]
  obtain ⟨d, hd⟩ : ∃ d : Nat, 10000 = d + 1 + 1 := ⟨9998, rfl⟩
  rw [hd, run_equalIn_agg w (d + 1) 45 _ _ hS hp]
  simp only [Program.fieldsOf, Tryd.underlying45]
  clear hd
  go_simp
  by_cases h1 : a = a' <;> by_cases h2 : b = b' <;> by_cases h3 : c = c' <;> simp [h1, h2, h3]
end Go.Proofs.YtndcmjgjecdgcaaDoor

/- A scope that begins with its one label. No program. -/
import Derived.ScopeJumps
import Derived.Control
namespace Go.Proofs.Ytcgilgihmapipaa
theorem wp_scope_head {P : Program} {a : Act} {w : World} {Q : Exit → Act → World → Prop} {rest : Code} (l : Nat) (J : Act → World → Prop) (μ : Act → World → Nat) (hJ : J a w)
    (pass : ∀ a w, J a w → rest.wp P (Exit.jump l (fun a' w' => J a' w' ∧ μ a' w' < μ a w) Q) a w) : (Code.scope (.seq (.label l) rest)).wp P Q a w := by
  refine wp_scope_jumps l J μ (rest := Code.seq .skip rest) (by simp [findLabel]) ?_ ?_
  · refine wp_seq (wp_label ?_)
    show rest.wp P (Exit.jump l J Q) a w
    intro b k cs
    obtain ⟨e, a₁, w₁, hq, harr⟩ := pass a w hJ b k cs
    refine ⟨e, a₁, w₁, ?_, harr⟩
    cases e with
    | goto l' => exact ⟨hq.1, hq.2.1⟩
    | _ => exact hq
  · intro a w hJ
    exact wp_seq (wp_skip (pass a w hJ))
end Go.Proofs.Ytcgilgihmapipaa

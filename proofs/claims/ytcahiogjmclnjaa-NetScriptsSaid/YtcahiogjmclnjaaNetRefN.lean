/- The reference's net: what it is, and the zero net. -/
import Derived.Test.YtcahiogjmclnjaaPlainKit
import Derived.Test.YtcahiogjmclnjaaNetSt
import Derived.Test.YtcahiogjmclnjaaStepFn
import Derived.Laws.Tables
import Derived.Great.Ranges
namespace Go.Proofs.Ytcahiogjmclnjaa
open Go.RowKit
def isNo : Value → Bool
  | .bool false => true
  | _ => false
def okZero (v : Value) : Bool := match v with
  | .agg Z => Z.size == 4099 && (Z.toList.drop 3).all isNo && (match Z.toList.take 3 with | [.int .i64 0, .int .i64 0, .slice none 0 0] => true | _ => false)
  | _ => false
set_option maxRecDepth 1000000 in
theorem zero_ok : ((Try.prog.info? 53).bind (fun i => i.zero)).any okZero = true := by kernel_rfl
theorem isNo_inv {v : Value} (h : isNo v = true) : v = .bool false := by
  unfold isNo at h
  split at h
  · rfl
  · cases h
/-- the reference's zero net with a number of nodes -/
theorem built_net (N : Int) : ∃ Z : Array Value, Try.prog.built 53 [(0, .int .i64 N)] = some Z ∧ Z[0]? = some (.int .i64 N) ∧ Z[1]? = some (.int .i64 0) ∧ Z[2]? = some (.slice none 0 0) ∧ ∀ j, j < 4096 → Z[3 + j]? = some (.bool false) := by
  obtain ⟨z, hz, hok⟩ := (Option.any_eq_true _ _).1 zero_ok
  obtain ⟨i, hi, hiz⟩ := Option.bind_eq_some_iff.1 hz
  unfold okZero at hok
  split at hok
  · rename_i Z
    simp only [Bool.and_eq_true, beq_iff_eq, List.all_eq_true] at hok
    obtain ⟨⟨h1, h2⟩, h3⟩ := hok
    split at h3
    · rename_i h3'
      have hs : Try.prog.underlying 53 = some (.struct (Try.prog.fieldsOf 53)) := by kernel_rfl
      obtain ⟨pl, hpl, hp0⟩ : ∃ pl : List (Nat × Nat), (Try.prog.fieldsOf 53).toList.mapM (fun f => (Try.prog.info? f.type).map fun i => (f.offset, i.size)) = some pl ∧ pl.toArray[0]? = some (0, 1) := ⟨[(0, 1), (1, 1), (2, 1), (3, 4096)], by kernel_rfl, rfl⟩
      refine ⟨Z.setIfInBounds 0 (.int .i64 N), ?_, ?_, ?_, ?_, ?_⟩
      · unfold Program.built
        rw [hi, hs]
        simp only [hiz, hpl, Instr.fill, hp0, Value.cells]
        have hz4 : Z.size = 4099 := h1
        simp [hz4]
      · simp [h1]
      · have := congrArg (fun l => l[1]?) h3'
        simp only [List.getElem?_take_of_lt (show 1 < 3 by decide)] at this
        simp at this
        simpa using this
      · have := congrArg (fun l => l[2]?) h3'
        simp only [List.getElem?_take_of_lt (show 2 < 3 by decide)] at this
        simp at this
        simpa using this
      · intro j hj
        have hlt : j < (Z.toList.drop 3).length := by simp [h1]; omega
        have := isNo_inv (h2 _ (List.getElem_mem hlt))
        rw [List.getElem_drop] at this
        rw [Array.getElem?_setIfInBounds_ne (by omega), Array.getElem?_eq_getElem (by omega)]
        simpa using this
    · cases h3
  · cases hok
end Go.Proofs.Ytcahiogjmclnjaa

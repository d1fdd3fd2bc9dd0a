/- What a row that lists the table of package crc gives to the walks, and a world that meets it. -/
import Derived.Test.YtcmhmnbffgdblaaDoorCards
import Derived.Test.YtcmhmnbffgdblaaDoorTie
import Derived.Test.YtcmhmnbffgdblaaDoorCrcFns
import Derived.WalkKit
import Derived.ProofKit
import Derived.OpenShut
import Derived.Deep.DeepHandedRow
import Derived.Lib.LaidTab
namespace Go.Proofs.YtcmhmnbffgdblaaDoor
open Go.ChangeShapes Go.WideShapes Go.ChangeAt Go.RowKit

theorem laidOut : laidOutB Tryd.prog = true := by kernel_rfl
theorem own : ownKnob Tryd.prog.godebug = none := by kernel_rfl
theorem gHalf : Tryd.prog.globalNamed "mahout/crc.half" = some 0 := by kernel_rfl
theorem gHalfType : (Tryd.prog.globals[0]?).map (·.type) = some 64 := by kernel_rfl
theorem cellsHalf : Tryd.prog.cellsOf 64 = 16 := by kernel_rfl
theorem cellsU32 : Tryd.prog.cellsOf 45 = 1 := by kernel_rfl

theorem table {W : World} (h : laidMetH Tryd.prog [("mahout/crc.half", Rows.laid_mahout_crc_half)] W) : Lib.TabIs Tryd.prog W "mahout/crc.half" .u32 Crc.half :=
  Lib.tabIs_of_head (rest := []) gHalf gHalfType Tryd.underlying64 Tryd.underlying45 cellsU32 cellsHalf h
theorem half_small : ∀ n : Fin 16, U (BitVec.ofNat 32 (Crc.half.getD n.val 0).toNat) = Crc.half.getD n.val 0 := by decide
theorem half_of {W : World} (h : laidMetH Tryd.prog [("mahout/crc.half", Rows.laid_mahout_crc_half)] W) : Half W := by
  intro x
  have hl := Crc.low_toNat x
  have hlt : (x &&& 15#32).toNat < 16 := by omega
  have := (table h).cell gHalf (x &&& 15#32).toNat (by simpa [Crc.half] using hlt)
  rw [this]
  unfold Crc.tab
  have e := half_small ⟨(x &&& 15#32).toNat, hlt⟩
  simp only [] at e
  rw [e]

/-- A WORLD FOR THE WITNESS: the settled one, the table (block 0) holding what its initialiser lays. -/
noncomputable def laidWorld (os : Os) : World :=
  { World.holding Tryd.prog os ⟨#[], #[], []⟩ with heap := (World.holding Tryd.prog os ⟨#[], #[], []⟩).heap.modify 0 fun
      | .cells _ t frozen => .cells (Crc.half.map fun z => Value.int .u32 z).toArray t frozen
      | o => o }
end Go.Proofs.YtcmhmnbffgdblaaDoor

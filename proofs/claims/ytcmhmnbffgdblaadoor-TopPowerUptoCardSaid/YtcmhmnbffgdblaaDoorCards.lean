/-
  DERIVED. GIVEN WITH THE SEED: THE CARDS: each row of YtcmhmnbffgdblaaDoorRows.lean that lists a variable, with what it lists TIED to the program's text (the seventh form; the later family's looks); each row that meets fmt, with fmt's text TOLD by the authors' own Lean function (tested against real Go, not proved from fmt's source: count such statements apart). THE CARD IS WHAT COUNTS. Prove the row's statement (the work); the ties are given (YtcmhmnbffgdblaaDoorTie.lean); close each card by the builder's one call (the guide's Derived/Test/ToyasCard.lean, 'card_holds'). Laid BY PROGRAM, IN A SANDBOX (cutbox-door.mjs). By AI agents, Wed Nov 11 2026. No macro, syntax, notation, axiom, sorry.
-/
import Derived.Test.YtcmhmnbffgdblaaDoorRows
import GoSem.ClaimSeven
namespace Go.Proofs.YtcmhmnbffgdblaaDoor
namespace Rows

/-- THE TIED CARD OF 'mahouttop.TopPower'. -/
def topPowerCard : Claim7 := { stood := { row := topPowerRow, standIns := [], harness := (true, "1f2e912f38fda266269b00a71b050b5c5331652dd50c186dcb22453bf5d08171"), looks := true }, kinds := [], alts := [], laidByText := true, laidKinds := [.data], laidTests := true, laidLooks := .later }
def TopPowerCardSaid : Prop := Claim7.holds Tryd.pinned (.plain (OpenSpec.ofChange topPowerSpec)) topPowerCard

/-- THE SECOND FORM's CARD OF 'mahouttop.TopPower'. -/
def topPowerUptoCard : Claim7 := { stood := { row := topPowerUptoRow, standIns := [], harness := (true, "1f2e912f38fda266269b00a71b050b5c5331652dd50c186dcb22453bf5d08171"), looks := true }, kinds := [], alts := [], laidByText := true, laidKinds := [.data], laidTests := true, laidLooks := .later }
def TopPowerUptoCardSaid : Prop := Claim7.holds Tryd.pinned (.plain (OpenSpec.upto topPowerSpec)) topPowerUptoCard
end Rows
end Go.Proofs.YtcmhmnbffgdblaaDoor

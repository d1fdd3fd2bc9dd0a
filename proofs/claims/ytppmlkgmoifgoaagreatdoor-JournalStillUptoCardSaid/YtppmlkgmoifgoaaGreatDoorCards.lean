/-
  DERIVED. GIVEN WITH THE SEED: THE CARDS: each row of YtppmlkgmoifgoaaGreatDoorRows.lean that lists a variable, with what it lists TIED to the program's text (the seventh form; the later family's looks); each row that meets fmt, with fmt's text TOLD by the authors' own Lean function (tested against real Go, not proved from fmt's source: count such statements apart). THE CARD IS WHAT COUNTS. Prove the row's statement (the work); the ties are given (YtppmlkgmoifgoaaGreatDoorTie.lean); close each card by the builder's one call (the guide's Derived/Test/ToyasCard.lean, 'card_holds'). Laid BY PROGRAM, IN A SANDBOX (cutbox-door.mjs). By AI agents, Wed Nov 11 2026. No macro, syntax, notation, axiom, sorry.
-/
import Derived.Test.YtppmlkgmoifgoaaGreatDoorRows
import GoSem.ClaimSeven
namespace Go.Proofs.YtppmlkgmoifgoaaGreatDoor
namespace Rows

/-- THE TIED CARD OF 'mahoutlaw10.JournalNil'. -/
def journalNilCard : Claim7 := { stood := { row := journalNilRow, standIns := [], harness := (true, "fb42c9f05e7f3f375d3c4d4eb6c186ea0e4388efaba072531795b67fd06866f8"), looks := true }, kinds := [], alts := [], laidByText := true, laidKinds := [.data, .data, .data, .data, .sentinel, .sentinel], laidTests := true, laidLooks := .later }
def JournalNilCardSaid : Prop := Claim7.holds Tryz.pinned (.plain (OpenSpec.ofChange journalNilSpec)) journalNilCard

/-- THE TIED CARD OF 'mahoutlaw10.JournalStill'. -/
def journalStillCard : Claim7 := { stood := { row := journalStillRow, standIns := [], harness := (true, "fb42c9f05e7f3f375d3c4d4eb6c186ea0e4388efaba072531795b67fd06866f8"), looks := true }, kinds := [], alts := [], laidByText := true, laidKinds := [.data, .data, .data, .data, .sentinel, .sentinel], laidTests := true, laidLooks := .later }
def JournalStillCardSaid : Prop := Claim7.holds Tryz.pinned (.plain (OpenSpec.ofChange journalStillSpec)) journalStillCard

/-- THE SECOND FORM's CARD OF 'mahoutlaw10.JournalNil'. -/
def journalNilUptoCard : Claim7 := { stood := { row := journalNilUptoRow, standIns := [], harness := (true, "fb42c9f05e7f3f375d3c4d4eb6c186ea0e4388efaba072531795b67fd06866f8"), looks := true }, kinds := [], alts := [], laidByText := true, laidKinds := [.data, .data, .data, .data, .sentinel, .sentinel], laidTests := true, laidLooks := .later }
def JournalNilUptoCardSaid : Prop := Claim7.holds Tryz.pinned (.plain (OpenSpec.upto journalNilSpec)) journalNilUptoCard

/-- THE SECOND FORM's CARD OF 'mahoutlaw10.JournalStill'. -/
def journalStillUptoCard : Claim7 := { stood := { row := journalStillUptoRow, standIns := [], harness := (true, "fb42c9f05e7f3f375d3c4d4eb6c186ea0e4388efaba072531795b67fd06866f8"), looks := true }, kinds := [], alts := [], laidByText := true, laidKinds := [.data, .data, .data, .data, .sentinel, .sentinel], laidTests := true, laidLooks := .later }
def JournalStillUptoCardSaid : Prop := Claim7.holds Tryz.pinned (.plain (OpenSpec.upto journalStillSpec)) journalStillUptoCard
end Rows
end Go.Proofs.YtppmlkgmoifgoaaGreatDoor

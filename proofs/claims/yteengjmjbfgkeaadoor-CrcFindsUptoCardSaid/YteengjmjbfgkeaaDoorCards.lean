/-
  DERIVED. GIVEN WITH THE SEED: THE CARDS: each row of YteengjmjbfgkeaaDoorRows.lean that lists a variable, with what it lists TIED to the program's text (the seventh form; the later family's looks); each row that meets fmt, with fmt's text TOLD by the authors' own Lean function (tested against real Go, not proved from fmt's source: count such statements apart). THE CARD IS WHAT COUNTS. Prove the row's statement (the work); the ties are given (YteengjmjbfgkeaaDoorTie.lean); close each card by the builder's one call (the guide's Derived/Test/ToyasCard.lean, 'card_holds'). Laid BY PROGRAM, IN A SANDBOX (cutbox-door.mjs). By AI agents, Wed Nov 11 2026. No macro, syntax, notation, axiom, sorry.
-/
import Derived.Test.YteengjmjbfgkeaaDoorRows
import GoSem.ClaimSeven
namespace Go.Proofs.YteengjmjbfgkeaaDoor
namespace Rows

/-- THE TIED CARD OF 'mahoutlaw01.CrcSums'. -/
def crcSumsCard : Claim7 := { stood := { row := crcSumsRow, standIns := [], harness := (true, "3034ad8df240f85fdce37a4c3ad3ade5f18f937b6dd73d23832b1ebce461e618"), looks := true }, kinds := [], alts := [], laidByText := true, laidKinds := [.data], laidTests := true, laidLooks := .later }
def CrcSumsCardSaid : Prop := Claim7.holds Tryd.pinned (.plain (OpenSpec.ofChange crcSumsSpec)) crcSumsCard

/-- THE TIED CARD OF 'mahoutlaw01.CrcChunks'. -/
def crcChunksCard : Claim7 := { stood := { row := crcChunksRow, standIns := [], harness := (true, "3034ad8df240f85fdce37a4c3ad3ade5f18f937b6dd73d23832b1ebce461e618"), looks := true }, kinds := [], alts := [], laidByText := true, laidKinds := [.data], laidTests := true, laidLooks := .later }
def CrcChunksCardSaid : Prop := Claim7.holds Tryd.pinned (.plain (OpenSpec.ofChange crcChunksSpec)) crcChunksCard

/-- THE TIED CARD OF 'mahoutlaw01.CrcFinds'. -/
def crcFindsCard : Claim7 := { stood := { row := crcFindsRow, standIns := [], harness := (true, "3034ad8df240f85fdce37a4c3ad3ade5f18f937b6dd73d23832b1ebce461e618"), looks := true }, kinds := [], alts := [], laidByText := true, laidKinds := [.data], laidTests := true, laidLooks := .later }
def CrcFindsCardSaid : Prop := Claim7.holds Tryd.pinned (.plain (OpenSpec.ofChange crcFindsSpec)) crcFindsCard

/-- THE TIED CARD OF 'mahoutlaw02.WireFrames'. -/
def wireFramesCard : Claim7 := { stood := { row := wireFramesRow, standIns := [], harness := (true, "3034ad8df240f85fdce37a4c3ad3ade5f18f937b6dd73d23832b1ebce461e618"), looks := true }, kinds := [], alts := [], laidByText := true, laidKinds := [.data], laidTests := true, laidLooks := .later }
def WireFramesCardSaid : Prop := Claim7.holds Tryd.pinned (.plain (OpenSpec.ofChange wireFramesSpec)) wireFramesCard

/-- THE TIED CARD OF 'mahoutlaw02.WireCuts'. -/
def wireCutsCard : Claim7 := { stood := { row := wireCutsRow, standIns := [], harness := (true, "3034ad8df240f85fdce37a4c3ad3ade5f18f937b6dd73d23832b1ebce461e618"), looks := true }, kinds := [], alts := [], laidByText := true, laidKinds := [.data], laidTests := true, laidLooks := .later }
def WireCutsCardSaid : Prop := Claim7.holds Tryd.pinned (.plain (OpenSpec.ofChange wireCutsSpec)) wireCutsCard

/-- THE TIED CARD OF 'mahouttop.TopSealed'. -/
def topSealedCard : Claim7 := { stood := { row := topSealedRow, standIns := [], harness := (true, "3034ad8df240f85fdce37a4c3ad3ade5f18f937b6dd73d23832b1ebce461e618"), looks := true }, kinds := [], alts := [], laidByText := true, laidKinds := [.data], laidTests := true, laidLooks := .later }
def TopSealedCardSaid : Prop := Claim7.holds Tryd.pinned (.plain (OpenSpec.ofChange topSealedSpec)) topSealedCard

/-- THE TIED CARD OF 'mahouttop.TopPower'. -/
def topPowerCard : Claim7 := { stood := { row := topPowerRow, standIns := [], harness := (true, "3034ad8df240f85fdce37a4c3ad3ade5f18f937b6dd73d23832b1ebce461e618"), looks := true }, kinds := [], alts := [], laidByText := true, laidKinds := [.data], laidTests := true, laidLooks := .later }
def TopPowerCardSaid : Prop := Claim7.holds Tryd.pinned (.plain (OpenSpec.ofChange topPowerSpec)) topPowerCard

/-- THE SECOND FORM's CARD OF 'mahoutlaw01.CrcSums'. -/
def crcSumsUptoCard : Claim7 := { stood := { row := crcSumsUptoRow, standIns := [], harness := (true, "3034ad8df240f85fdce37a4c3ad3ade5f18f937b6dd73d23832b1ebce461e618"), looks := true }, kinds := [], alts := [], laidByText := true, laidKinds := [.data], laidTests := true, laidLooks := .later }
def CrcSumsUptoCardSaid : Prop := Claim7.holds Tryd.pinned (.plain (OpenSpec.upto crcSumsSpec)) crcSumsUptoCard

/-- THE SECOND FORM's CARD OF 'mahoutlaw01.CrcChunks'. -/
def crcChunksUptoCard : Claim7 := { stood := { row := crcChunksUptoRow, standIns := [], harness := (true, "3034ad8df240f85fdce37a4c3ad3ade5f18f937b6dd73d23832b1ebce461e618"), looks := true }, kinds := [], alts := [], laidByText := true, laidKinds := [.data], laidTests := true, laidLooks := .later }
def CrcChunksUptoCardSaid : Prop := Claim7.holds Tryd.pinned (.plain (OpenSpec.upto crcChunksSpec)) crcChunksUptoCard

/-- THE SECOND FORM's CARD OF 'mahoutlaw01.CrcFinds'. -/
def crcFindsUptoCard : Claim7 := { stood := { row := crcFindsUptoRow, standIns := [], harness := (true, "3034ad8df240f85fdce37a4c3ad3ade5f18f937b6dd73d23832b1ebce461e618"), looks := true }, kinds := [], alts := [], laidByText := true, laidKinds := [.data], laidTests := true, laidLooks := .later }
def CrcFindsUptoCardSaid : Prop := Claim7.holds Tryd.pinned (.plain (OpenSpec.upto crcFindsSpec)) crcFindsUptoCard

/-- THE SECOND FORM's CARD OF 'mahoutlaw02.WireFrames'. -/
def wireFramesUptoCard : Claim7 := { stood := { row := wireFramesUptoRow, standIns := [], harness := (true, "3034ad8df240f85fdce37a4c3ad3ade5f18f937b6dd73d23832b1ebce461e618"), looks := true }, kinds := [], alts := [], laidByText := true, laidKinds := [.data], laidTests := true, laidLooks := .later }
def WireFramesUptoCardSaid : Prop := Claim7.holds Tryd.pinned (.plain (OpenSpec.upto wireFramesSpec)) wireFramesUptoCard

/-- THE SECOND FORM's CARD OF 'mahoutlaw02.WireCuts'. -/
def wireCutsUptoCard : Claim7 := { stood := { row := wireCutsUptoRow, standIns := [], harness := (true, "3034ad8df240f85fdce37a4c3ad3ade5f18f937b6dd73d23832b1ebce461e618"), looks := true }, kinds := [], alts := [], laidByText := true, laidKinds := [.data], laidTests := true, laidLooks := .later }
def WireCutsUptoCardSaid : Prop := Claim7.holds Tryd.pinned (.plain (OpenSpec.upto wireCutsSpec)) wireCutsUptoCard

/-- THE SECOND FORM's CARD OF 'mahouttop.TopSealed'. -/
def topSealedUptoCard : Claim7 := { stood := { row := topSealedUptoRow, standIns := [], harness := (true, "3034ad8df240f85fdce37a4c3ad3ade5f18f937b6dd73d23832b1ebce461e618"), looks := true }, kinds := [], alts := [], laidByText := true, laidKinds := [.data], laidTests := true, laidLooks := .later }
def TopSealedUptoCardSaid : Prop := Claim7.holds Tryd.pinned (.plain (OpenSpec.upto topSealedSpec)) topSealedUptoCard

/-- THE SECOND FORM's CARD OF 'mahouttop.TopPower'. -/
def topPowerUptoCard : Claim7 := { stood := { row := topPowerUptoRow, standIns := [], harness := (true, "3034ad8df240f85fdce37a4c3ad3ade5f18f937b6dd73d23832b1ebce461e618"), looks := true }, kinds := [], alts := [], laidByText := true, laidKinds := [.data], laidTests := true, laidLooks := .later }
def TopPowerUptoCardSaid : Prop := Claim7.holds Tryd.pinned (.plain (OpenSpec.upto topPowerSpec)) topPowerUptoCard
end Rows
end Go.Proofs.YteengjmjbfgkeaaDoor

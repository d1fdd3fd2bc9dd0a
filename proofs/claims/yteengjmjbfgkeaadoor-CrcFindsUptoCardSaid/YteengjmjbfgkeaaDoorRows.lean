/-
  NARROWER THAN 'FOR EVERY INPUT', by the rows' own cells (each row's printed sentence says how): CrcSums: laid · CrcChunks: laid · CrcFinds: laid · WireFrames: laid · WireCuts: laid · TopSealed: laid · TopPower: laid.
  DERIVED. THE GIVEN ROWS OF THIS SEAT. 7 by the template 'for every input the law returns true; each argument reads behind the call as it read before'; 0 by the template 'total and deterministic' (their statements: YteengjmjbfgkeaaDoorTotals.lean).
  GIVEN WITH THE SEED: the statements are not yours to turn. If you find one false, say at which input.
  Laid BY PROGRAM, IN A SANDBOX (cutbox-rows.mjs): the forced cells as the released guide's own fill.sh prints them over the translation 84022e7e9fe7cfa2… (all of the seat's roots in one cut). By AI agents, Wed Nov 11 2026. No macro, syntax, notation, axiom, sorry.
-/
import Derived.Test.YteengjmjbfgkeaaDoorChecked
import GoSem.Claim
import GoSem.ClaimJoined
import GoSem.ClaimMapViews
import Derived.JoinedTies
import Derived.KernelRfl
namespace Go.Proofs.YteengjmjbfgkeaaDoor
/- THE CELL 'sum', in the pinned program and in every row, IS THE sha256 OF THE DUMP (.gsa) THAT YteengjmjbfgkeaaDoorProg.lean LOADS. Nothing in Lean hashes anything: it is a label: what it is worth is what the hold of that sum in a sandbox is worth. -/
noncomputable def Tryd.pinned : Pinned := { name := "yteengjmjbfgkeaadoor", sum := "84022e7e9fe7cfa26fec7ece3a19a29c2959adac74ec16aa162aee3592b78744", checked := Tryd.checked }
namespace Rows
def none {H : Type} : Left H := { results := [], args := [] }

/- WHAT THE LISTED PACKAGE-LEVEL VARIABLES READ AS WHEN THE CALL BEGINS. Each datum BY PROGRAM (the guide's laid-datum.mjs) off the statement by which the dump's own 'gosem.cut.vars' lays the variable. In a bare row this is a premise. The card (YteengjmjbfgkeaaDoorCards.lean) ties it to the program's text. -/
def laid_mahout_crc_half {H : Type} : DataW H := .agg [.lit (.int .u32 0), .lit (.int .u32 274646895), .lit (.int .u32 549293790), .lit (.int .u32 820201905), .lit (.int .u32 1098587580), .lit (.int .u32 1361435347), .lit (.int .u32 1640403810), .lit (.int .u32 1905808397), .lit (.int .u32 2197175160), .lit (.int .u32 2460548119), .lit (.int .u32 2722870694), .lit (.int .u32 2987750089), .lit (.int .u32 3280807620), .lit (.int .u32 3553878443), .lit (.int .u32 3811616794), .lit (.int .u32 4084100981)]

/-- 'mahoutlaw01.CrcSums': WHATEVER THE INPUT: true; the input reads as it did. -/
def crcSumsSpec : ChangeSpec := { name := "crcSums", fn := fun _ => fun
  | [d1, d2] => { results := [.lit (.bool true)], args := [d1, d2] }
  | _ => none }
def crcSumsRow : OpenClaim := { program := "yteengjmjbfgkeaadoor", sum := "84022e7e9fe7cfa26fec7ece3a19a29c2959adac74ec16aa162aee3592b78744", func := "mahout/mahoutlaw01.CrcSums", spec := "crcSums", named := ["mahout/crc.half"], apart := false, laid := [("mahout/crc.half", laid_mahout_crc_half)] }
def CrcSumsSaid : Prop := crcSumsRow.holds Tryd.pinned (OpenSpec.ofChange crcSumsSpec)

/-- ITS FALSE NEIGHBOUR: 'it returns false'. Refute it at one input. -/
def crcSumsWrong : ChangeSpec := { name := "crcSums", fn := fun _ => fun
  | [d1, d2] => { results := [.lit (.bool false)], args := [d1, d2] }
  | _ => none }
def CrcSumsWrongFalsely : Prop := crcSumsRow.holds Tryd.pinned (OpenSpec.ofChange crcSumsWrong)

/-- 'mahoutlaw01.CrcChunks': WHATEVER THE INPUT: true; the input reads as it did. -/
def crcChunksSpec : ChangeSpec := { name := "crcChunks", fn := fun _ => fun
  | [d1, d2, d3] => { results := [.lit (.bool true)], args := [d1, d2, d3] }
  | _ => none }
def crcChunksRow : OpenClaim := { program := "yteengjmjbfgkeaadoor", sum := "84022e7e9fe7cfa26fec7ece3a19a29c2959adac74ec16aa162aee3592b78744", func := "mahout/mahoutlaw01.CrcChunks", spec := "crcChunks", unfollowed := true, recurses := true, named := ["mahout/crc.half"], apart := false, laid := [("mahout/crc.half", laid_mahout_crc_half)] }
def CrcChunksSaid : Prop := crcChunksRow.holds Tryd.pinned (OpenSpec.ofChange crcChunksSpec)

/-- ITS FALSE NEIGHBOUR: 'it returns false'. Refute it at one input. -/
def crcChunksWrong : ChangeSpec := { name := "crcChunks", fn := fun _ => fun
  | [d1, d2, d3] => { results := [.lit (.bool false)], args := [d1, d2, d3] }
  | _ => none }
def CrcChunksWrongFalsely : Prop := crcChunksRow.holds Tryd.pinned (OpenSpec.ofChange crcChunksWrong)

/-- 'mahoutlaw01.CrcFinds': WHATEVER THE INPUT: true; the input reads as it did. -/
def crcFindsSpec : ChangeSpec := { name := "crcFinds", fn := fun _ => fun
  | [d1, d2, d3] => { results := [.lit (.bool true)], args := [d1, d2, d3] }
  | _ => none }
def crcFindsRow : OpenClaim := { program := "yteengjmjbfgkeaadoor", sum := "84022e7e9fe7cfa26fec7ece3a19a29c2959adac74ec16aa162aee3592b78744", func := "mahout/mahoutlaw01.CrcFinds", spec := "crcFinds", unfollowed := true, recurses := true, named := ["mahout/crc.half"], apart := false, laid := [("mahout/crc.half", laid_mahout_crc_half)] }
def CrcFindsSaid : Prop := crcFindsRow.holds Tryd.pinned (OpenSpec.ofChange crcFindsSpec)

/-- ITS FALSE NEIGHBOUR: 'it returns false'. Refute it at one input. -/
def crcFindsWrong : ChangeSpec := { name := "crcFinds", fn := fun _ => fun
  | [d1, d2, d3] => { results := [.lit (.bool false)], args := [d1, d2, d3] }
  | _ => none }
def CrcFindsWrongFalsely : Prop := crcFindsRow.holds Tryd.pinned (OpenSpec.ofChange crcFindsWrong)

/-- 'mahoutlaw02.WireFrames': WHATEVER THE INPUT: true; the input reads as it did. -/
def wireFramesSpec : ChangeSpec := { name := "wireFrames", fn := fun _ => fun
  | [d1, d2, d3] => { results := [.lit (.bool true)], args := [d1, d2, d3] }
  | _ => none }
def wireFramesRow : OpenClaim := { program := "yteengjmjbfgkeaadoor", sum := "84022e7e9fe7cfa26fec7ece3a19a29c2959adac74ec16aa162aee3592b78744", func := "mahout/mahoutlaw02.WireFrames", spec := "wireFrames", named := ["mahout/crc.half"], apart := false, laid := [("mahout/crc.half", laid_mahout_crc_half)] }
def WireFramesSaid : Prop := wireFramesRow.holds Tryd.pinned (OpenSpec.ofChange wireFramesSpec)

/-- ITS FALSE NEIGHBOUR: 'it returns false'. Refute it at one input. -/
def wireFramesWrong : ChangeSpec := { name := "wireFrames", fn := fun _ => fun
  | [d1, d2, d3] => { results := [.lit (.bool false)], args := [d1, d2, d3] }
  | _ => none }
def WireFramesWrongFalsely : Prop := wireFramesRow.holds Tryd.pinned (OpenSpec.ofChange wireFramesWrong)

/-- 'mahoutlaw02.WireCuts': WHATEVER THE INPUT: true; the input reads as it did. -/
def wireCutsSpec : ChangeSpec := { name := "wireCuts", fn := fun _ => fun
  | [d1, d2, d3] => { results := [.lit (.bool true)], args := [d1, d2, d3] }
  | _ => none }
def wireCutsRow : OpenClaim := { program := "yteengjmjbfgkeaadoor", sum := "84022e7e9fe7cfa26fec7ece3a19a29c2959adac74ec16aa162aee3592b78744", func := "mahout/mahoutlaw02.WireCuts", spec := "wireCuts", named := ["mahout/crc.half"], apart := false, laid := [("mahout/crc.half", laid_mahout_crc_half)] }
def WireCutsSaid : Prop := wireCutsRow.holds Tryd.pinned (OpenSpec.ofChange wireCutsSpec)

/-- ITS FALSE NEIGHBOUR: 'it returns false'. Refute it at one input. -/
def wireCutsWrong : ChangeSpec := { name := "wireCuts", fn := fun _ => fun
  | [d1, d2, d3] => { results := [.lit (.bool false)], args := [d1, d2, d3] }
  | _ => none }
def WireCutsWrongFalsely : Prop := wireCutsRow.holds Tryd.pinned (OpenSpec.ofChange wireCutsWrong)

/-- 'mahouttop.TopSealed': WHATEVER THE INPUT: true; the input reads as it did. -/
def topSealedSpec : ChangeSpec := { name := "topSealed", fn := fun _ => fun
  | [d1, d2, d3] => { results := [.lit (.bool true)], args := [d1, d2, d3] }
  | _ => none }
def topSealedRow : OpenClaim := { program := "yteengjmjbfgkeaadoor", sum := "84022e7e9fe7cfa26fec7ece3a19a29c2959adac74ec16aa162aee3592b78744", func := "mahout/mahouttop.TopSealed", spec := "topSealed", named := ["mahout/crc.half"], apart := false, laid := [("mahout/crc.half", laid_mahout_crc_half)] }
def TopSealedSaid : Prop := topSealedRow.holds Tryd.pinned (OpenSpec.ofChange topSealedSpec)

/-- ITS FALSE NEIGHBOUR: 'it returns false'. Refute it at one input. -/
def topSealedWrong : ChangeSpec := { name := "topSealed", fn := fun _ => fun
  | [d1, d2, d3] => { results := [.lit (.bool false)], args := [d1, d2, d3] }
  | _ => none }
def TopSealedWrongFalsely : Prop := topSealedRow.holds Tryd.pinned (OpenSpec.ofChange topSealedWrong)

/-- 'mahouttop.TopPower': WHATEVER THE INPUT: true; the input reads as it did. -/
def topPowerSpec : ChangeSpec := { name := "topPower", fn := fun _ => fun
  | [d1, d2, d3] => { results := [.lit (.bool true)], args := [d1, d2, d3] }
  | _ => none }
def topPowerRow : OpenClaim := { program := "yteengjmjbfgkeaadoor", sum := "84022e7e9fe7cfa26fec7ece3a19a29c2959adac74ec16aa162aee3592b78744", func := "mahout/mahouttop.TopPower", spec := "topPower", unfollowed := true, recurses := true, named := ["mahout/crc.half"], apart := false, laid := [("mahout/crc.half", laid_mahout_crc_half)] }
def TopPowerSaid : Prop := topPowerRow.holds Tryd.pinned (OpenSpec.ofChange topPowerSpec)

/-- ITS FALSE NEIGHBOUR: 'it returns false'. Refute it at one input. -/
def topPowerWrong : ChangeSpec := { name := "topPower", fn := fun _ => fun
  | [d1, d2, d3] => { results := [.lit (.bool false)], args := [d1, d2, d3] }
  | _ => none }
def TopPowerWrongFalsely : Prop := topPowerRow.holds Tryd.pinned (OpenSpec.ofChange topPowerWrong)

/- THE SECOND FORM. 'bulk': how many values and letters a reading holds, each counted each time it is reached (what is shared counts as often as it is met; a slice's spare places count too). A statement '..UptoSaid' is the law's where the arguments, and the package variables that the reading takes, are together of bulk at most 1048576: NARROWER than '..Said'. Prove '..Said' where nothing that the law and all that it calls make is longer than what came in: it says more and counts as full. Else prove '..UptoSaid'. A law counts once. -/
mutual
def uptoBulk {H : Type} : DataW H → Nat
  | .lit (.string bytes) => bytes.length + 1
  | .lit _ => 1
  | .nil => 1
  | .ptr d => uptoBulk d + 1
  | .slice elems spare => uptoBulkAll elems + uptoBulkAll spare + 1
  | .agg parts => uptoBulkAll parts + 1
  | .iface _ d => uptoBulk d + 1
  | .map entries => uptoBulkEntries entries + 1
  | .held _ => 1
def uptoBulkAll {H : Type} : List (DataW H) → Nat
  | [] => 0
  | d :: r => uptoBulk d + uptoBulkAll r
def uptoBulkEntries {H : Type} : List (Lit × DataW H) → Nat
  | [] => 0
  | x :: r => uptoBulkEntry x + uptoBulkEntries r
def uptoBulkEntry {H : Type} : Lit × DataW H → Nat
  | (.string bytes, d) => bytes.length + uptoBulk d + 1
  | (_, d) => uptoBulk d + 1
 end
def uptoSmall : (H : Type) → List (DataW H) → Bool := fun _ ds => decide (uptoBulkAll ds ≤ 1048576)
def OpenSpec.upto (s : _root_.Go.ChangeSpec) : _root_.Go.OpenSpec := { _root_.Go.OpenSpec.ofChange s with cond := some uptoSmall }

/-- 'mahoutlaw01.CrcSums', WHERE WHAT IT READS IS OF BULK AT MOST 1048576: true; the input reads as it did. -/
def crcSumsUptoRow : OpenClaim := { program := "yteengjmjbfgkeaadoor", sum := "84022e7e9fe7cfa26fec7ece3a19a29c2959adac74ec16aa162aee3592b78744", func := "mahout/mahoutlaw01.CrcSums", spec := "crcSums", named := ["mahout/crc.half"], apart := false, laid := [("mahout/crc.half", laid_mahout_crc_half)], narrowed := true }
def CrcSumsUptoSaid : Prop := crcSumsUptoRow.holds Tryd.pinned (OpenSpec.upto crcSumsSpec)

/-- 'mahoutlaw01.CrcChunks', WHERE WHAT IT READS IS OF BULK AT MOST 1048576: true; the input reads as it did. -/
def crcChunksUptoRow : OpenClaim := { program := "yteengjmjbfgkeaadoor", sum := "84022e7e9fe7cfa26fec7ece3a19a29c2959adac74ec16aa162aee3592b78744", func := "mahout/mahoutlaw01.CrcChunks", spec := "crcChunks", unfollowed := true, recurses := true, named := ["mahout/crc.half"], apart := false, laid := [("mahout/crc.half", laid_mahout_crc_half)], narrowed := true }
def CrcChunksUptoSaid : Prop := crcChunksUptoRow.holds Tryd.pinned (OpenSpec.upto crcChunksSpec)

/-- 'mahoutlaw01.CrcFinds', WHERE WHAT IT READS IS OF BULK AT MOST 1048576: true; the input reads as it did. -/
def crcFindsUptoRow : OpenClaim := { program := "yteengjmjbfgkeaadoor", sum := "84022e7e9fe7cfa26fec7ece3a19a29c2959adac74ec16aa162aee3592b78744", func := "mahout/mahoutlaw01.CrcFinds", spec := "crcFinds", unfollowed := true, recurses := true, named := ["mahout/crc.half"], apart := false, laid := [("mahout/crc.half", laid_mahout_crc_half)], narrowed := true }
def CrcFindsUptoSaid : Prop := crcFindsUptoRow.holds Tryd.pinned (OpenSpec.upto crcFindsSpec)

/-- 'mahoutlaw02.WireFrames', WHERE WHAT IT READS IS OF BULK AT MOST 1048576: true; the input reads as it did. -/
def wireFramesUptoRow : OpenClaim := { program := "yteengjmjbfgkeaadoor", sum := "84022e7e9fe7cfa26fec7ece3a19a29c2959adac74ec16aa162aee3592b78744", func := "mahout/mahoutlaw02.WireFrames", spec := "wireFrames", named := ["mahout/crc.half"], apart := false, laid := [("mahout/crc.half", laid_mahout_crc_half)], narrowed := true }
def WireFramesUptoSaid : Prop := wireFramesUptoRow.holds Tryd.pinned (OpenSpec.upto wireFramesSpec)

/-- 'mahoutlaw02.WireCuts', WHERE WHAT IT READS IS OF BULK AT MOST 1048576: true; the input reads as it did. -/
def wireCutsUptoRow : OpenClaim := { program := "yteengjmjbfgkeaadoor", sum := "84022e7e9fe7cfa26fec7ece3a19a29c2959adac74ec16aa162aee3592b78744", func := "mahout/mahoutlaw02.WireCuts", spec := "wireCuts", named := ["mahout/crc.half"], apart := false, laid := [("mahout/crc.half", laid_mahout_crc_half)], narrowed := true }
def WireCutsUptoSaid : Prop := wireCutsUptoRow.holds Tryd.pinned (OpenSpec.upto wireCutsSpec)

/-- 'mahouttop.TopSealed', WHERE WHAT IT READS IS OF BULK AT MOST 1048576: true; the input reads as it did. -/
def topSealedUptoRow : OpenClaim := { program := "yteengjmjbfgkeaadoor", sum := "84022e7e9fe7cfa26fec7ece3a19a29c2959adac74ec16aa162aee3592b78744", func := "mahout/mahouttop.TopSealed", spec := "topSealed", named := ["mahout/crc.half"], apart := false, laid := [("mahout/crc.half", laid_mahout_crc_half)], narrowed := true }
def TopSealedUptoSaid : Prop := topSealedUptoRow.holds Tryd.pinned (OpenSpec.upto topSealedSpec)

/-- 'mahouttop.TopPower', WHERE WHAT IT READS IS OF BULK AT MOST 1048576: true; the input reads as it did. -/
def topPowerUptoRow : OpenClaim := { program := "yteengjmjbfgkeaadoor", sum := "84022e7e9fe7cfa26fec7ece3a19a29c2959adac74ec16aa162aee3592b78744", func := "mahout/mahouttop.TopPower", spec := "topPower", unfollowed := true, recurses := true, named := ["mahout/crc.half"], apart := false, laid := [("mahout/crc.half", laid_mahout_crc_half)], narrowed := true }
def TopPowerUptoSaid : Prop := topPowerUptoRow.holds Tryd.pinned (OpenSpec.upto topPowerSpec)

end Rows
end Go.Proofs.YteengjmjbfgkeaaDoor

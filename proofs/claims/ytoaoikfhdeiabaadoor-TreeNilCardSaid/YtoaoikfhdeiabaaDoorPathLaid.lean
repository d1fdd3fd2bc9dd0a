/- A world for the witness of the rows of package paths: the two tables of unicode/utf8 as the program's text lays them. -/
import Derived.Test.YtoaoikfhdeiabaaDoorCards
import Derived.Test.YtoaoikfhdeiabaaDoorTie
import Derived.Test.YtoaoikfhdeiabaaDoorPlainKit
import Derived.Lib.LaidTab
import GoSem.PinnedTables
namespace Go.Proofs.YtoaoikfhdeiabaaDoor
open Go.ChangeShapes Go.WideShapes Go.ChangeAt Go.RowKit
def litsOf : DataW Unit → List Value
  | .lit (.int k n) => [.int k n]
  | _ => []
def litsIn : DataW Unit → List Value
  | .agg ds => ds.flatMap litsOf
  | d => litsOf d
def litsAll : DataW Unit → List Value
  | .agg ds => ds.flatMap litsIn
  | _ => []
def holdsNow (vs : List Value) : Obj → Obj
  | .cells _ t frozen => .cells vs.toArray t frozen
  | o => o
/-- A WORLD FOR THE WITNESS: the settled one, the two tables holding what their initialisers lay. -/
noncomputable def laidWorld (os : Os) : World :=
  let w := World.holding Tryd.prog os ⟨#[], #[], []⟩
  { w with heap := (w.heap.modify 1 (holdsNow (litsAll Go.Pinned.utf8First))).modify 2 (holdsNow (litsAll Rows.laid_unicode_utf8_acceptRanges)) }
end Go.Proofs.YtoaoikfhdeiabaaDoor

/- The contracts of the laws' own small functions: whole, speaks, number. -/
import Derived.Test.YtjjmflkdfgneoaaWhereFnsC
namespace Go.Proofs.Ytjjmflkdfgneoaa
open Go.RowKit

theorem nought_word : floatOfInt .f64 0 = 0 := by decide +kernel
end Go.Proofs.Ytjjmflkdfgneoaa

/- The contracts of the laws' own small functions: whole, speaks, number. -/
import Derived.Test.YtegbdholdglghaaWhereFnsC
namespace Go.Proofs.Ytegbdholdglghaa
open Go.RowKit

theorem nought_word : floatOfInt .f64 0 = 0 := by decide +kernel
end Go.Proofs.Ytegbdholdglghaa

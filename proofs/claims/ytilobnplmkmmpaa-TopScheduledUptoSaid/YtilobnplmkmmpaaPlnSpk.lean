/- The laws' own speaks: the nearer task is taken. -/
import Derived.Test.YtilobnplmkmmpaaPlnPts
namespace Go.Proofs.Ytilobnplmkmmpaa
open Go.RowKit

end Go.Proofs.Ytilobnplmkmmpaa

/- What comes in. -/
import Derived.Test.YtcbniifpbcgamaaLawI
import Derived.Test.YtcbniifpbcgamaaLawC
namespace Go.Proofs.Ytcbniifpbcgamaa
set_option linter.unusedSimpArgs false
set_option linter.unusedVariables false
open Go.RowKit


end Go.Proofs.Ytcbniifpbcgamaa

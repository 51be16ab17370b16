/- Package ask: Right. -/
import Derived.Test.YtcmnhpogepahgaaPRight
namespace Go.Proofs.Ytcmnhpogepahgaa
open Go.ChangeShapes Go.WideShapes Go.ChangeAt Go.RowKit
set_option linter.unusedVariables false
set_option linter.unusedSimpArgs false

end Go.Proofs.Ytcmnhpogepahgaa

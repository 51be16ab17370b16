/- Package ask: numbered, bare, Right. -/
import Derived.Test.YtcmnhpogepahgaaPOr
import Derived.Test.YtcmnhpogepahgaaAskWhole
namespace Go.Proofs.Ytcmnhpogepahgaa
open Go.ChangeShapes Go.WideShapes Go.ChangeAt Go.RowKit
set_option linter.unusedVariables false
set_option linter.unusedSimpArgs false

end Go.Proofs.Ytcmnhpogepahgaa

/- The document's words, behind one another; what its AskBytes lays first. -/
import Derived.Test.YtebpilfogdenjaaAskWhole
import Derived.Test.YtebpilfogdenjaaStep
import Derived.Test.YtebpilfogdenjaaRefBits
namespace Go.Proofs.Ytebpilfogdenjaa
open Go.ChangeShapes Go.WideShapes Go.ChangeAt Go.RowKit
set_option linter.unusedVariables false
set_option linter.unusedSimpArgs false

end Go.Proofs.Ytebpilfogdenjaa

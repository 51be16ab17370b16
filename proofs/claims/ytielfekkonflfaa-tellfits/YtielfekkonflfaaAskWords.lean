/- The document's words, behind one another; what its AskBytes lays first. -/
import Derived.Test.YtielfekkonflfaaAskWhole
import Derived.Test.YtielfekkonflfaaStep
import Derived.Test.YtielfekkonflfaaRefBits
namespace Go.Proofs.Ytielfekkonflfaa
open Go.ChangeShapes Go.WideShapes Go.ChangeAt Go.RowKit
set_option linter.unusedVariables false
set_option linter.unusedSimpArgs false

end Go.Proofs.Ytielfekkonflfaa

/- The document's words, behind one another; what its AskBytes lays first. -/
import Derived.Test.YtokljdkbheogoaaAskWhole
import Derived.Test.YtokljdkbheogoaaStep
import Derived.Test.YtokljdkbheogoaaRefBits
namespace Go.Proofs.Ytokljdkbheogoaa
open Go.ChangeShapes Go.WideShapes Go.ChangeAt Go.RowKit
set_option linter.unusedVariables false
set_option linter.unusedSimpArgs false

end Go.Proofs.Ytokljdkbheogoaa

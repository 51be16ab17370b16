/- Append onto a row of the call's own, whatever the source; the contract of the document's Put. -/
import Derived.Test.YtielfekkonflfaaBytes
namespace Go.Proofs.Ytielfekkonflfaa
open Go.RowKit
set_option linter.unusedVariables false

end Go.Proofs.Ytielfekkonflfaa

/- Append onto a row of the call's own, whatever the source; the contract of the document's Put. -/
import Derived.Test.YtebpilfogdenjaaBytes
namespace Go.Proofs.Ytebpilfogdenjaa
open Go.RowKit
set_option linter.unusedVariables false

end Go.Proofs.Ytebpilfogdenjaa

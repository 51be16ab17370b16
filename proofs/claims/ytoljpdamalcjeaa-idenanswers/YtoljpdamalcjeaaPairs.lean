/- Two arrays of two ints that hold the same are equal. No statement is proved here. -/
import Derived.Test.YtoljpdamalcjeaaGen
import Derived.ChangeKeysEq
namespace Go.Proofs.Ytoljpdamalcjeaa
open Go.ChangeShapes Go.WideShapes Go.ChangeAt Go.RowKit
set_option linter.unusedVariables false

theorem infoI : (Try.prog.info? 3).map (fun i => (i.zero, i.size, i.bytes)) = some (some (.int .i64 0), 1, 8) := by kernel_rfl
end Go.Proofs.Ytoljpdamalcjeaa

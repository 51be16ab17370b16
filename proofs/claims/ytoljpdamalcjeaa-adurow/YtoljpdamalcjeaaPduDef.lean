/- What it is that a request by two numbers always has the same bytes. No statement is proved here. -/
import Derived.Test.YtoljpdamalcjeaaGen
namespace Go.Proofs.Ytoljpdamalcjeaa
open Go.ChangeShapes Go.WideShapes Go.ChangeAt Go.RowKit
set_option linter.unusedVariables false

/-- The document's bytes of the request by k and v. -/
def PduIs (k v : Int) (zs : List Int) : Prop :=
  Bytes8 zs ∧ 4 ≤ zs.length ∧ zs.length ≤ 252 ∧ ∀ l, zs.length = l → ∀ w, Calls Try.prog 22 #[.int .i64 k, .int .i64 v] w fun e w1 => ∃ V, e = .returned V ∧ Below w.heap.size w w1 ∧
    ∀ W, Below w1.heap.size w1 W → Calls Try.prog 21 #[V] W fun e w' => ∃ C cap, e = .returned (.tuple #[.slice C l cap, .int .i64 0]) ∧ Row .u8 w' w'.heap.size C l zs ∧ Below W.heap.size W w'

end Go.Proofs.Ytoljpdamalcjeaa

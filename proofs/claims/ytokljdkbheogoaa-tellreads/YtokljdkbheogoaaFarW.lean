/- A block that is far from a store. No statement is proved here. -/
import Derived.Test.YtokljdkbheogoaaPBox14
namespace Go.Proofs.Ytokljdkbheogoaa
open Go.ChangeShapes Go.WideShapes Go.ChangeAt Go.RowKit
set_option linter.unusedVariables false
set_option linter.unusedSimpArgs false

theorem whole_far {w : World} {g k : Nat} {t : TypeId} {vs : List Value} (h : WholeV w g t vs) (hk : g ≠ k) (i : Nat) (v : Value) : WholeV (w.setCell ⟨k, i, none⟩ v) g t vs := (Below.heap_setCell w ⟨k, i, none⟩ v g hk).trans h

end Go.Proofs.Ytokljdkbheogoaa

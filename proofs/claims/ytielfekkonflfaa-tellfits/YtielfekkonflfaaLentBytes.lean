/- Bytes that are lent, and whether they stay: LentBytes, StaysBytes. -/
import Derived.Test.YtielfekkonflfaaGen
namespace Go.Proofs.Ytielfekkonflfaa
open Go.ChangeShapes Go.WideShapes Go.ChangeAt Go.RowKit
set_option linter.unusedVariables false

/-- The row that is lent, when k marks have been laid. -/
def lentRow (zs : List Int) (k : Nat) : List Int := zs ++ (List.replicate k 165 ++ List.replicate (3 - k) 0)
theorem lentRow_length (zs : List Int) (k : Nat) (h : k ≤ 3) : (lentRow zs k).length = zs.length + 3 := by simp [lentRow]; omega
theorem lentRow_set (zs : List Int) (k : Nat) (h : k < 3) : ((lentRow zs k).map (Value.int .u8)).toArray.setIfInBounds (zs.length + k) (.int .u8 165) = ((lentRow zs (k + 1)).map (Value.int .u8)).toArray := by
  apply Array.toList_inj.1
  unfold lentRow
  match k, h with
  | 0, _ => simp [List.replicate]
  | 1, _ => simp [List.replicate]
  | 2, _ => simp [List.replicate]

end Go.Proofs.Ytielfekkonflfaa

/- Package iden: place, upTo, above, Level, greatest, from. -/
import Derived.Test.YtcmnhpogepahgaaObjs
namespace Go.Proofs.Ytcmnhpogepahgaa
open Go.ChangeShapes Go.WideShapes Go.ChangeAt Go.RowKit
set_option linter.unusedVariables false
set_option linter.unusedSimpArgs false

/-- How many objects, from the first on, have Ids that are not above this one. -/
def upN (os : List Ob) (id : Int) : Nat := (os.takeWhile fun o => decide (o.1 ≤ id)).length
theorem upN_le (os : List Ob) (id : Int) : upN os id ≤ os.length := by
  unfold upN
  induction os with
  | nil => simp
  | cons o os ih =>
    rw [List.takeWhile_cons]
    split <;> simp_all
theorem upN_in (os : List Ob) (id : Int) (k : Nat) (hk : k < upN os id) : (os.getD k ob0).1 ≤ id := by
  induction os generalizing k with
  | nil => simp [upN] at hk
  | cons o os ih =>
    unfold upN at hk
    rw [List.takeWhile_cons] at hk
    split at hk
    · rename_i ho
      cases k with
      | zero => simpa using ho
      | succ k => exact ih k (by unfold upN; simpa using hk)
    · simp at hk
theorem upN_out (os : List Ob) (id : Int) (hk : upN os id < os.length) : id < (os.getD (upN os id) ob0).1 := by
  induction os with
  | nil => simp at hk
  | cons o os ih =>
    by_cases ho : o.1 ≤ id
    · have he : upN (o :: os) id = upN os id + 1 := by simp [upN, List.takeWhile_cons, ho]
      rw [he] at hk ⊢
      exact ih (by simpa using hk)
    · have he : upN (o :: os) id = 0 := by simp [upN, List.takeWhile_cons, ho]
      rw [he]
      simpa using ho
/-- The level that the document says. -/
def levelOf (os : List Ob) : Int := if upN os 127 < os.length then 131 else if upN os 2 < os.length then 130 else 129

end Go.Proofs.Ytcmnhpogepahgaa

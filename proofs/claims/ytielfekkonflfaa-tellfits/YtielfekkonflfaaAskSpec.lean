/- Requests: when one is right, its bytes. What chapter 5 says, in numbers and lists; no function of the program. -/
import Derived.Test.YtielfekkonflfaaKinds
import Derived.Test.YtielfekkonflfaaByte
namespace Go.Proofs.Ytielfekkonflfaa
open Go.ChangeShapes Go.WideShapes Go.ChangeAt Go.RowKit
set_option linter.unusedVariables false

/-- All fields are zero that the table does not name for the function. -/
def plainP (fn at_ n v an orr : Int) (bl wl : Nat) (ra rn co ob : Int) : Prop :=
  (fn ≠ 43 ∨ at_ = 0) ∧ ((fn ≠ 43 ∧ fn ≠ 5 ∧ fn ≠ 6 ∧ fn ≠ 22) ∨ n = 0) ∧ (fn = 5 ∨ fn = 6 ∨ v = 0) ∧ (fn = 22 ∨ (an = 0 ∧ orr = 0)) ∧ (fn = 15 ∨ bl = 0) ∧ (fn = 16 ∨ fn = 23 ∨ wl = 0) ∧ (fn = 23 ∨ (ra = 0 ∧ rn = 0)) ∧ (fn = 43 ∨ (co = 0 ∧ ob = 0))
instance (fn at_ n v an orr : Int) (bl wl : Nat) (ra rn co ob : Int) : Decidable (plainP fn at_ n v an orr bl wl ra rn co ob) := by unfold plainP; infer_instance
/-- What is asked of the numbers of a function. -/
def fitsP (fn at_ n v an orr : Int) (bl wl : Nat) (ra rn co ob : Int) : Prop :=
  (¬ (1 ≤ fn ∧ fn ≤ 4) ∨ (1 ≤ n ∧ n ≤ kMostR fn)) ∧ (fn ≠ 5 ∨ v ≤ 1) ∧ (¬ (fn = 15 ∨ fn = 16 ∨ fn = 23) ∨ (1 ≤ n ∧ n ≤ kMostW fn)) ∧ (fn ≠ 15 ∨ (bl : Int) = n) ∧ (¬ (fn = 16 ∨ fn = 23) ∨ (wl : Int) = n) ∧ (fn ≠ 23 ∨ (1 ≤ rn ∧ rn ≤ kMostR fn)) ∧ (fn ≠ 43 ∨ ((1 ≤ co ∧ co ≤ 4) ∧ (0 ≤ ob ∧ ob ≤ 255)))
instance (fn at_ n v an orr : Int) (bl wl : Nat) (ra rn co ob : Int) : Decidable (fitsP fn at_ n v an orr bl wl ra rn co ob) := by unfold fitsP; infer_instance
/-- A right request. -/
def rightP (fn at_ n v an orr : Int) (bl wl : Nat) (ra rn co ob : Int) : Prop := kKnown fn = true ∧ plainP fn at_ n v an orr bl wl ra rn co ob ∧ (0 ≤ at_ ∧ at_ ≤ 65535) ∧ (0 ≤ ra ∧ ra ≤ 65535) ∧ fitsP fn at_ n v an orr bl wl ra rn co ob
instance (fn at_ n v an orr : Int) (bl wl : Nat) (ra rn co ob : Int) : Decidable (rightP fn at_ n v an orr bl wl ra rn co ob) := by unfold rightP; infer_instance

/-- A word's two bytes. -/
def be (v : Int) : List Int := [v / 256, v % 256]
/-- Words, one after the other. -/
def flat (zs : List Int) : List Int := zs.flatMap be
theorem flat_length (zs : List Int) : (flat zs).length = 2 * zs.length := by
  induction zs with
  | nil => rfl
  | cons x xs ih => unfold flat at *; rw [List.flatMap_cons, List.length_append, ih]; simp [be]; omega
theorem flat_take (zs : List Int) (k : Nat) (h : k < zs.length) : flat (zs.take (k + 1)) = flat (zs.take k) ++ be (zs.getD k 0) := by
  unfold flat
  rw [List.take_succ_eq_append_getElem h, List.flatMap_append]
  congr 1
  simp [List.getD, h]
/-- The bytes of a right request. -/
def enc (fn at_ n v an orr : Int) (bs : List Bool) (ws : List Int) (ra rn co ob : Int) : List Int :=
  fn :: (if fn = 5 then be at_ ++ be (v * 65280) else if fn = 6 then be at_ ++ be v else if fn = 15 then be at_ ++ be n ++ [((nb bs.length : Nat) : Int)] ++ pk bs bs.length
    else if fn = 16 then be at_ ++ be n ++ [2 * (ws.length : Int)] ++ flat ws else if fn = 22 then be at_ ++ be an ++ be orr else if fn = 23 then be ra ++ be rn ++ be at_ ++ be n ++ [2 * (ws.length : Int)] ++ flat ws else if fn = 43 then [14, co, ob] else be at_ ++ be n)

end Go.Proofs.Ytielfekkonflfaa

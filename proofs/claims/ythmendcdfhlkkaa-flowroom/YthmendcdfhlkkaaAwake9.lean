/- busbarlaw9: some; chapter 9's example. -/
import Derived.Test.YthmendcdfhlkkaaRing4
import Derived.Test.YthmendcdfhlkkaaWithin
namespace Go.Proofs.Ythmendcdfhlkkaa
open Go.ChangeShapes Go.WideShapes Go.ChangeAt Go.RowKit
set_option linter.unusedVariables false
set_option linter.unusedSimpArgs false

/-- So many bytes, from a number on. -/
def someL (fr : Int) (n : Nat) : List Int := (List.range n).map fun (i : Nat) => (fr + (i : Int)) % 256
theorem someL_length (fr : Int) (n : Nat) : (someL fr n).length = n := by simp [someL]
theorem someL_succ (fr : Int) (n : Nat) : someL fr (n + 1) = someL fr n ++ [(fr + (n : Int)) % 256] := by simp [someL, List.range_succ]

/-- What some leaves. -/
def SomeRow (fr : Int) (n : Nat) (w : World) (e : Ending) (w' : World) : Prop := ∃ A c, e = .returned (.slice A n c) ∧ w'.ownsRow w.heap.size 5 1 (.slice A n c) n ((someL fr n).map (Value.int .u8)) ∧ Below w.heap.size w w'

end Go.Proofs.Ythmendcdfhlkkaa

/- The examples of chapter 3. -/
import Derived.Test.YtgkolhpbiohboaaKinds
import Derived.Test.YtgkolhpbiohboaaWithin
namespace Go.Proofs.Ytgkolhpbiohboaa
open Go.ChangeShapes Go.WideShapes Go.ChangeAt Go.RowKit
set_option linter.unusedVariables false

theorem awake_any (w : World) : Calls Try.prog 6 #[] w fun e w' => e = .returned (.bool true) ∧ w = w' := by
  have h0 : NoFn 0 := ⟨by decide, by decide, by decide, by decide, by decide, by decide, by decide, by decide, by decide, by decide, by decide⟩
  go_enter Try.func6, Try.ntmps6
  go_wp2_with (first
    | (go_at_call 8; refine (ktable_any 22 _).mono ?_; rintro e w1 ⟨rfl, rfl⟩)
    | (go_at_call 10; refine (kmost_any 23 _).mono ?_; rintro e w1 ⟨rfl, rfl⟩)
    | (go_at_call 12; (with_reducible refine (kknown_any 43 _).mono ?_); rintro e w1 ⟨rfl, rfl⟩)
    | (go_at_call 12; (with_reducible refine (kknown_no 0 _ h0).mono ?_); rintro e w1 ⟨rfl, rfl⟩))
  go_ret
  exact ⟨rfl, rfl⟩

end Go.Proofs.Ytgkolhpbiohboaa

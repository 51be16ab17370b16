/- Package iden: Answer. -/
import Derived.Test.YtoljpdamalcjeaaIden6
namespace Go.Proofs.Ytoljpdamalcjeaa
open Go.ChangeShapes Go.WideShapes Go.ChangeAt Go.RowKit
set_option linter.unusedVariables false
set_option linter.unusedSimpArgs false

set_option maxRecDepth 100000 in
set_option maxHeartbeats 2000000 in
theorem ianswer_bad (A : Option Addr) (n c : Nat) (co ob : Int) (w : World) (h : ¬ ((1 ≤ co ∧ co ≤ 4) ∧ 0 ≤ ob ∧ ob ≤ 255)) :
    Calls Try.prog 44 #[.slice A n c, .int .i64 co, .int .i64 ob] w fun e w' => e = .returned (.tuple #[.agg #[.int .i64 0, .int .i64 0, .slice none 0 0, .slice none 0 0, .int .i64 0, .int .i64 0, .int .u16 0, .int .u16 0, .int .u16 0, .int .i64 0, .int .i64 0, .bool false, .int .i64 0, .slice none 0 0], .int .i64 3]) ∧ Below w.heap.size w w' := by
  by_cases hco : 1 ≤ co ∧ co ≤ 4
  · have hob : ¬ (0 ≤ ob ∧ ob ≤ 255) := fun h2 => h ⟨hco, h2⟩
    have C1 := Lib.hid (fun W => pwithin_lit co 4 true W (decide_eq_true hco))
    have C2 := Lib.hid (fun W => isbyte_lit ob false W (decide_eq_false hob))
    clear h hob hco
    go_enter Try.func44, Try.ntmps44
    go_wp2_with (first
      | (go_at_call 89; refine (C1.out _).mono ?_; rintro e w' ⟨rfl, rfl⟩)
      | (go_at_call 69; refine (C2.out _).mono ?_; rintro e w' ⟨rfl, rfl⟩))
    exact bodyPost_ret (v := .tuple #[.agg #[.int .i64 0, .int .i64 0, .slice none 0 0, .slice none 0 0, .int .i64 0, .int .i64 0, .int .u16 0, .int .u16 0, .int .u16 0, .int .i64 0, .int .i64 0, .bool false, .int .i64 0, .slice none 0 0], .int .i64 3]) (by simp [results, Try.results44, go_sem]) rfl ⟨rfl, (Below.refl _ _).alloc (Nat.le_refl _) _⟩
  · have C1 := Lib.hid (fun W => pwithin_lit co 4 false W (decide_eq_false hco))
    clear h hco
    go_enter Try.func44, Try.ntmps44
    go_wp2_with (first
      | (go_at_call 89; refine (C1.out _).mono ?_; rintro e w' ⟨rfl, rfl⟩))
    exact bodyPost_ret (v := .tuple #[.agg #[.int .i64 0, .int .i64 0, .slice none 0 0, .slice none 0 0, .int .i64 0, .int .i64 0, .int .u16 0, .int .u16 0, .int .u16 0, .int .i64 0, .int .i64 0, .bool false, .int .i64 0, .slice none 0 0], .int .i64 3]) (by simp [results, Try.results44, go_sem]) rfl ⟨rfl, (Below.refl _ _).alloc (Nat.le_refl _) _⟩

end Go.Proofs.Ytoljpdamalcjeaa

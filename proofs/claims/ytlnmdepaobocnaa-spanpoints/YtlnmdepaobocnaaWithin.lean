/- busbarlaw0.Within: the remainder that is never negative. -/
import Derived.Test.YtlnmdepaobocnaaGen
namespace Go.Proofs.Ytlnmdepaobocnaa
open Go.ChangeShapes Go.WideShapes Go.ChangeAt Go.RowKit
set_option linter.unusedVariables false

theorem within_any (k n : Int) (w : World) (h0 : -9223372036854775808 ≤ k) (h1 : k ≤ 9223372036854775807) (hn : 0 < n) (hn1 : n ≤ 4611686018427387903) :
    Calls Try.prog 18 #[.int .i64 k, .int .i64 n] w fun e w' => e = .returned (.int .i64 (k % n)) ∧ w = w' := by
  have hm0 := Int.emod_nonneg k (show n ≠ 0 by omega)
  have hm1 := Int.emod_lt_of_pos k hn
  by_cases h : 0 ≤ k
  · have e : k.tmod n = k % n := Int.tmod_eq_emod_of_nonneg h
    go_enter Try.func18, Try.ntmps18
    go_wp2
    go_ret
    exact ⟨rfl, rfl⟩
  · have e0 := Int.tmod_eq_emod (a := k) (b := n)
    by_cases hd : n ∣ k
    · have e : k.tmod n = k % n := by rw [e0, if_pos (.inr hd)]; omega
      clear e0
      go_enter Try.func18, Try.ntmps18
      go_wp2
      go_ret
      exact ⟨rfl, rfl⟩
    · have e : k.tmod n = k % n - n := by rw [e0, if_neg (by rintro (h2 | h2); exact h h2; exact hd h2)]; omega
      have hlt : k % n - n < 0 := by omega
      clear e0
      go_enter Try.func18, Try.ntmps18
      go_wp2
      go_ret
      exact ⟨ret_int (by omega), rfl⟩

end Go.Proofs.Ytlnmdepaobocnaa

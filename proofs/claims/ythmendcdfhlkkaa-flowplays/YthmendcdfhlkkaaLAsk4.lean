/- A request by two numbers: busbarlaw0.Ask, whole. -/
import Derived.Test.YthmendcdfhlkkaaLAsk2
import Derived.Test.YthmendcdfhlkkaaLAsk3
namespace Go.Proofs.Ythmendcdfhlkkaa
open Go.ChangeShapes Go.WideShapes Go.ChangeAt Go.RowKit
set_option linter.unusedVariables false
set_option linter.unusedSimpArgs false

theorem lask_is (k v : Int) (k0 : -9223372036854775808 ≤ k) (k1 : k ≤ 9223372036854775807) (v0 : -9223372036854775808 ≤ v) (v1 : v ≤ 9223372036854775807) : AskIs k v := by
  rcases (by omega : k % 16 = 0 ∨ k % 16 = 1 ∨ k % 16 = 2 ∨ k % 16 = 3 ∨ k % 16 = 4 ∨ k % 16 = 5 ∨ k % 16 = 6 ∨ k % 16 = 7 ∨ k % 16 = 8 ∨ k % 16 = 9 ∨ k % 16 = 10 ∨ k % 16 = 11 ∨ k % 16 = 12 ∨ k % 16 = 13 ∨ k % 16 = 14 ∨ k % 16 = 15) with h | h | h | h | h | h | h | h | h | h | h | h | h | h | h | h
  · exact lask_0 k v k0 k1 v0 v1 h
  · exact lask_1 k v k0 k1 v0 v1 h
  · exact lask_2 k v k0 k1 v0 v1 h
  · exact lask_3 k v k0 k1 v0 v1 h
  · exact lask_4 k v k0 k1 v0 v1 h
  · exact lask_5 k v k0 k1 v0 v1 h
  · exact lask_6 k v k0 k1 v0 v1 h
  · exact lask_7 k v k0 k1 v0 v1 h
  · exact lask_8 k v k0 k1 v0 v1 h
  · exact lask_9 k v k0 k1 v0 v1 h
  · by_cases h3 : (k.tdiv 3840) % 12 = 0 <;> by_cases h4 : (v.tdiv 64) % 3 = 0
    · exact lask_10a k v k0 k1 v0 v1 h h3 h4
    · exact lask_10c k v k0 k1 v0 v1 h h3 h4
    · exact lask_10b k v k0 k1 v0 v1 h h3 h4
    · exact lask_10d k v k0 k1 v0 v1 h h3 h4
  · by_cases h3 : (k.tdiv 3840) % 12 = 0
    · exact lask_11a k v k0 k1 v0 v1 h h3
    · exact lask_11b k v k0 k1 v0 v1 h h3
  · by_cases h3 : (k.tdiv 3840) % 12 = 0
    · exact lask_12a k v k0 k1 v0 v1 h h3
    · exact lask_12b k v k0 k1 v0 v1 h h3
  · exact lask_13 k v k0 k1 v0 v1 h
  · by_cases h3 : (k.tdiv 3840) % 12 = 0
    · exact lask_14a k v k0 k1 v0 v1 h h3
    · exact lask_14b k v k0 k1 v0 v1 h h3
  · exact lask_15 k v k0 k1 v0 v1 h

theorem lask_any (k v : Int) (w : World) (k0 : -9223372036854775808 ≤ k) (k1 : k ≤ 9223372036854775807) (v0 : -9223372036854775808 ≤ v) (v1 : v ≤ 9223372036854775807) :
    Calls Try.prog 22 #[.int .i64 k, .int .i64 v] w (AskTo w) := by
  obtain ⟨fn, at_, n, x, an, orr, bl, wl, ra, rn, co, ob, bs, ws, ⟨g1, g2, g3, _, _⟩, h⟩ := lask_is k v k0 k1 v0 v1
  exact (h w).mono fun e w' ⟨BA, WA, bc, wc, h1, h2, h3, h4⟩ => ⟨fn, at_, n, x, an, orr, bl, wl, ra, rn, co, ob, BA, WA, bc, wc, bs, ws, h1, g1, g2, g3, h2, h3, h4⟩

end Go.Proofs.Ythmendcdfhlkkaa

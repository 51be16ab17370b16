/- busbarlaw11.awake. No statement is proved here. -/
import Derived.Test.YtokljdkbheogoaaDesk4
import Derived.Test.YtokljdkbheogoaaWithin
namespace Go.Proofs.Ytokljdkbheogoaa
open Go.ChangeShapes Go.WideShapes Go.ChangeAt Go.RowKit
set_option linter.unusedVariables false
set_option linter.unusedSimpArgs false

theorem below_one {B0 : Nat} {w0 w w' : World} {g : Nat} (hb : Below B0 w0 w) (hB : B0 ≤ w.heap.size) (ho : Off (fun i => i = g) w w') (hg : B0 ≤ g) : Below B0 w0 w' :=
  hb.trans (ho.below hB (fun k hk h => by subst h; omega))

set_option maxRecDepth 100000 in
set_option maxHeartbeats 1000000 in
theorem dawake_any (w : World) : Calls Try.prog 23 #[] w fun e w' => e = .returned (.bool true) ∧ Below w.heap.size w w' := by
  have HG : Hid (w.heap.size ≤ w.heap.size) := Nat.le_refl _
  have CN := Lib.hid (dnew_any 2 2 w rfl)
  go_enter Try.func23, Try.ntmps23
  go_wp2_with (first
    | (go_at_call 24
       (with_reducible refine CN.out.mono ?_)
       rintro e w1 ⟨rfl, hd, hb⟩
       have HB1 := Lib.hid hb
       have C1 := Lib.hid (open_yes 0 hd (by omega) (by omega) rfl)
       clear hd hb)
    | (go_at_call 27
       (with_reducible refine C1.out.mono ?_)
       rintro e w2 ⟨rfl, hd, ho⟩
       have HB2 : Hid (Below w.heap.size w w2) := below_one HB1.out HB1.out.size ho HG.out
       have C2 := Lib.hid (open_yes 1 hd (by omega) (by intro j hj; obtain rfl : j = 0 := (by omega); decide) rfl)
       clear hd ho)
    | (go_at_call 27
       (with_reducible refine C2.out.mono ?_)
       rintro e w3 ⟨rfl, hd, ho⟩
       have HB3 : Hid (Below w.heap.size w w3) := below_one HB2.out HB2.out.size ho HG.out
       have C3 := Lib.hid (open_no hd (by intro j hj; obtain rfl | rfl : j = 0 ∨ j = 1 := (by omega); all_goals decide))
       have hc4 := close_yes 0 hd (by omega) (by decide)
       rw [show ((0 : Nat) : Int) = 0 from rfl] at hc4
       have C4 := Lib.hid hc4
       clear hd ho hc4)
    | (go_at_call 27
       (with_reducible refine C3.out.mono ?_)
       rintro e w4 ⟨rfl, rfl⟩)
    | (go_at_call 29
       (with_reducible refine C4.out.mono ?_)
       rintro e w5 ⟨rfl, hd, ho⟩
       have HB5 : Hid (Below w.heap.size w w5) := below_one HB3.out HB3.out.size ho HG.out
       have C5 := Lib.hid (open_yes 0 hd (by omega) (by omega) rfl)
       clear hd ho)
    | (go_at_call 27
       (with_reducible refine C5.out.mono ?_)
       rintro e w6 ⟨rfl, hd, ho⟩
       have HB6 : Hid (Below w.heap.size w w6) := below_one HB5.out HB5.out.size ho HG.out
       clear hd ho))
  go_ret
  exact ⟨rfl, HB6.out⟩

end Go.Proofs.Ytokljdkbheogoaa

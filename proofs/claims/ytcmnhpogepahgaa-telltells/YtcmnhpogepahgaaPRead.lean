/- Package ask: number, size, unpacked, refusal. -/
import Derived.Test.YtcmnhpogepahgaaPSmall
import Derived.Test.YtcmnhpogepahgaaAskList
import Derived.Test.YtcmnhpogepahgaaBitsMore
namespace Go.Proofs.Ytcmnhpogepahgaa
open Go.ChangeShapes Go.WideShapes Go.ChangeAt Go.RowKit
set_option linter.unusedVariables false
set_option linter.unusedSimpArgs false

theorem pnumber_any (A : Option Addr) (n c : Nat) (zs : List Int) (a g : Int) (w : World) (hg : gotW zs n a = g) (hr : Row .u8 w w.heap.size A n zs) (hx : Bytes8 zs) (hn : n ≤ 100000) :
    Calls Try.prog 95 #[.slice A n c, .int .i64 a] w (Quiet (.int .i64 g) w) := by
  obtain ⟨b1, b2⟩ := gotW_bounds hx n a
  rw [hg] at b1 b2
  have HR := Lib.hid hr
  have HX := Lib.hid hx
  have HG := Lib.hid hg
  clear hr hx hg
  go_enter Try.func95, Try.ntmps95
  go_wp2_with (go_at_call 110; refine (wget_any A n c zs a _ HR.out HX.out hn).mono ?_; rintro e w' ⟨rfl, d, rfl⟩; rw [HG.out])
  go_ret
  exact ⟨rfl, d, rfl⟩

section
variable (A : Option Addr) (n c : Nat) (zs : List Int) (w : World)

end

end Go.Proofs.Ytcmnhpogepahgaa

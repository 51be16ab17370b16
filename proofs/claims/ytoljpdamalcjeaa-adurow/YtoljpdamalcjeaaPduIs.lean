/- The bytes of a request by two numbers are the same, whenever they are asked for. -/
import Derived.Test.YtoljpdamalcjeaaLAsk4
import Derived.Test.YtoljpdamalcjeaaPEnc
import Derived.Test.YtoljpdamalcjeaaPduDef
namespace Go.Proofs.Ytoljpdamalcjeaa
open Go.ChangeShapes Go.WideShapes Go.ChangeAt Go.RowKit
set_option linter.unusedVariables false

theorem pdu_is (k v : Int) (k0 : -9223372036854775808 ≤ k) (k1 : k ≤ 9223372036854775807) (v0 : -9223372036854775808 ≤ v) (v1 : v ≤ 9223372036854775807) : ∃ zs, PduIs k v zs := by
  obtain ⟨fn, at_, n, x, an, orr, bl, wl, ra, rn, co, ob, bs, ws, ⟨g1, g2, g3, g4, g5⟩, h⟩ := lask_is k v k0 k1 v0 v1
  have g1' : rightP fn at_ n x an orr bs.length ws.length ra rn co ob := by rw [g4, g5]; exact g1
  have hl := enc_length at_ n x an orr bs ws ra rn co ob fn g1'
  refine ⟨enc fn at_ n x an orr bs ws ra rn co ob, enc_bytes at_ n x an orr bs ws ra rn co ob fn g1' g2 g3, hl.1, hl.2.1, fun l hl w => ?_⟩
  subst hl
  refine (h w).mono fun e w1 ⟨BA, WA, bc, wc, h1, h2, h3, h4⟩ => ⟨_, h1, h4, fun W hW => ?_⟩
  exact rbytes_yes fn at_ n x an orr bs ws ra rn co ob BA WA bl wl bc wc W g1 g2.v0 g2.v1 g2.x0 g2.x1 g2.o0 g2.o1 (((own_row h2).bools.below hW).more hW.size) (((own_row h3).ints.below hW).more hW.size) g3

end Go.Proofs.Ytoljpdamalcjeaa

/- Package tell: Right. -/
import Derived.Test.YtcmnhpogepahgaaPTell2
import Derived.Test.YtcmnhpogepahgaaPTell3
import Derived.Test.YtcmnhpogepahgaaPTellX
namespace Go.Proofs.Ytcmnhpogepahgaa
open Go.ChangeShapes Go.WideShapes Go.ChangeAt Go.RowKit
set_option linter.unusedVariables false
set_option linter.unusedSimpArgs false

/-- Right of any reply. -/
theorem ptr_any (fn ex : Int) (bl wl : Nat) (at_ n v an orr co le : Int) (mo : Bool) (nx : Int) (ol : Nat) (BA WA OA : Option Addr) (bc wc oc : Nat) (w : World) (fo : Bool) (b : Bool) (hw : WideT at_ n v an orr co le nx) (hf : Fits w OA ol oc fo) (hb : decide (tellP fn ex bl wl at_ n v an orr co le mo.toNat nx ol fo.toNat) = b) :
    Calls Try.prog 17 #[.agg #[.int .i64 fn, .int .i64 ex, .slice BA bl bc, .slice WA wl wc, .int .i64 at_, .int .i64 n, .int .u16 v, .int .u16 an, .int .u16 orr, .int .i64 co, .int .i64 le, .bool mo, .int .i64 nx, .slice OA ol oc]] w fun e w' => e = .returned (.bool b) ∧ Below w.heap.size w w' := by
  by_cases hx : ex = 0
  · subst hx
    rcases kinds fn with rfl | rfl | rfl | rfl | rfl | rfl | rfl | rfl | rfl | rfl | rfl | h
    · exact ptr_1 bl wl at_ n v an orr co le mo nx ol BA WA OA bc wc oc w fo b hw hb
    · exact ptr_2 bl wl at_ n v an orr co le mo nx ol BA WA OA bc wc oc w fo b hw hb
    · exact ptr_3 bl wl at_ n v an orr co le mo nx ol BA WA OA bc wc oc w fo b hw hb
    · exact ptr_4 bl wl at_ n v an orr co le mo nx ol BA WA OA bc wc oc w fo b hw hb
    · exact ptr_5 bl wl at_ n v an orr co le mo nx ol BA WA OA bc wc oc w fo b hw hb
    · exact ptr_6 bl wl at_ n v an orr co le mo nx ol BA WA OA bc wc oc w fo b hw hb
    · exact ptr_15 bl wl at_ n v an orr co le mo nx ol BA WA OA bc wc oc w fo b hw hb
    · exact ptr_16 bl wl at_ n v an orr co le mo nx ol BA WA OA bc wc oc w fo b hw hb
    · exact ptr_22 bl wl at_ n v an orr co le mo nx ol BA WA OA bc wc oc w fo b hw hb
    · exact ptr_23 bl wl at_ n v an orr co le mo nx ol BA WA OA bc wc oc w fo b hw hb
    · exact ptr_43 bl wl at_ n v an orr co le mo nx ol BA WA OA bc wc oc w fo b hw hb hf
    · rw [← hb, decide_eq_false (fun hr => by have := (tell_nought.1 hr).1; rw [h.known] at this; cases this)]
      exact ptr_unknown fn bl wl at_ n v an orr co le mo nx ol BA WA OA bc wc oc w h.known
  · exact ptr_exc fn ex bl wl at_ n v an orr co le mo nx ol BA WA OA bc wc oc w fo b hw hx hb

end Go.Proofs.Ytcmnhpogepahgaa

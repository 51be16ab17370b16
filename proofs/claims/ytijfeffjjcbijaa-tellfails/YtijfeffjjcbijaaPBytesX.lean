/- Package tell: Bytes of what is not right, and of exceptions. -/
import Derived.Test.YtijfeffjjcbijaaPTell4
import Derived.Test.YtijfeffjjcbijaaTail
namespace Go.Proofs.Ytijfeffjjcbijaa
open Go.ChangeShapes Go.WideShapes Go.ChangeAt Go.RowKit
set_option linter.unusedVariables false
set_option linter.unusedSimpArgs false

theorem pbT_no (fn ex : Int) (bl wl : Nat) (at_ q v an orr co le : Int) (mo : Bool) (nx : Int) (ol : Nat) (BA WA OA : Option Addr) (bc wc oc : Nat) (w : World) (fo : Bool) (hw : WideT at_ q v an orr co le nx) (hf : Fits w OA ol oc fo) (h : ¬ tellP fn ex bl wl at_ q v an orr co le mo.toNat nx ol fo.toNat) :
    Calls Try.prog 38 #[.agg #[.int .i64 fn, .int .i64 ex, .slice BA bl bc, .slice WA wl wc, .int .i64 at_, .int .i64 q, .int .u16 v, .int .u16 an, .int .u16 orr, .int .i64 co, .int .i64 le, .bool mo, .int .i64 nx, .slice OA ol oc]] w fun e w' => e = .returned (.tuple #[.slice none 0 0, .int .i64 1]) ∧ Below w.heap.size w w' := by
  have HW := Lib.hid hw
  have HF := Lib.hid hf
  have HP := Lib.hid (decide_eq_false h)
  clear hw hf h
  go_enter Try.func38, Try.ntmps38
  go_wp2_with (go_at_call 40; refine (ptr_any fn ex bl wl at_ q v an orr co le mo nx ol BA WA OA bc wc oc _ fo false HW.out (HF.out.on ((Below.refl _ _).alloc (Nat.le_refl _) _)) HP.out).mono ?_; rintro e w1 ⟨rfl, hb1⟩; have HB1 : Hid (Below w.heap.size w w1) := ((Below.refl _ _).alloc (Nat.le_refl _) _).trans (hb1.mono (by simp)); clear hb1)
  go_ret2
  exact ⟨rfl, HB1.out⟩

theorem pbT_exc (fn ex : Int) (bl wl : Nat) (at_ q v an orr co le : Int) (mo : Bool) (nx : Int) (ol : Nat) (BA WA OA : Option Addr) (bc wc oc : Nat) (w : World) (fo : Bool) (hw : WideT at_ q v an orr co le nx) (hx : ex ≠ 0) (h : tellP fn ex bl wl at_ q v an orr co le mo.toNat nx ol fo.toNat) :
    Calls Try.prog 38 #[.agg #[.int .i64 fn, .int .i64 ex, .slice BA bl bc, .slice WA wl wc, .int .i64 at_, .int .i64 q, .int .u16 v, .int .u16 an, .int .u16 orr, .int .i64 co, .int .i64 le, .bool mo, .int .i64 nx, .slice OA ol oc]] w fun e w' => ∃ g, e = .returned (.tuple #[.slice (some ⟨g, 0, none⟩) 2 2, .int .i64 0]) ∧ Whole .u8 w' g 5 [fn % 128 + 128, ex] ∧ w.heap.size ≤ g ∧ Below w.heap.size w w' := by
  have hq := (tell_exc hx).1 h
  have f0 := hq.2.1.1
  have f1 := hq.2.1.2
  have x0 : 0 ≤ ex := by omega
  have x1 : ex ≤ 255 := by omega
  have eo := or128 fn f0 f1
  have b0 : 0 ≤ fn % 128 + 128 := by omega
  have b1 : fn % 128 + 128 ≤ 255 := by omega
  have ef : IntKind.u8.wrap fn = fn := IntWalk.u8_in _ (by omega)
  have ee : IntKind.u8.wrap ex = ex := IntWalk.u8_in _ (by omega)
  have HW := Lib.hid hw
  have HP := Lib.hid (decide_eq_true h)
  clear hw h hq
  go_enter Try.func38, Try.ntmps38
  go_wp2_with (go_at_call 40
               refine (ptr_exc fn ex bl wl at_ q v an orr co le mo nx ol BA WA OA bc wc oc _ fo true HW.out hx HP.out).mono ?_
               rintro e w1 ⟨rfl, hb1⟩
               have HB1 : Hid (Below w.heap.size w w1) := ((Below.refl _ _).alloc (Nat.le_refl _) _).trans (hb1.mono (by simp))
               have hk1 : Below (w.heap.size + 1) (w.alloc (.cells #[.int .i64 fn, .int .i64 ex, .slice BA bl bc, .slice WA wl wc, .int .i64 at_, .int .i64 q, .int .u16 v, .int .u16 an, .int .u16 orr, .int .i64 co, .int .i64 le, .bool mo, .int .i64 nx, .slice OA ol oc] 64)) w1 := by
                 rwa [show (w.alloc (.cells #[.int .i64 fn, .int .i64 ex, .slice BA bl bc, .slice WA wl wc, .int .i64 at_, .int .i64 q, .int .u16 v, .int .u16 an, .int .u16 orr, .int .i64 co, .int .i64 le, .bool mo, .int .i64 nx, .slice OA ol oc] 64)).heap.size = w.heap.size + 1 by simp] at hb1
               obtain ⟨hc0, hc1, hc2, hc3, hc4, hc5, hc6, hc7, hc8, hc9, hc10, hc11, hc12, hc13⟩ := cells14 (box14 _ _ _ _ _ _ _ _ _ _ _ _ _ _ _ w w1 hk1)
               clear hb1 hk1)
  go_ret2
  exact ⟨w1.heap.size, rfl, heap_alloc_new w1 _, HB1.out.size, HB1.out.alloc HB1.out.size _⟩

end Go.Proofs.Ytijfeffjjcbijaa

/- Joined: PTell2 PTell3 PTell4. -/
import Derived.Test.YtielfekkonflfaaPTellX
namespace Go.Proofs.Ytielfekkonflfaa
open Go.ChangeShapes Go.WideShapes Go.ChangeAt Go.RowKit
set_option linter.unusedVariables false
set_option linter.unusedSimpArgs false

set_option maxHeartbeats 2000000 in
theorem ptr_1 (bl wl : Nat) (at_ n v an orr co le : Int) (mo : Bool) (nx : Int) (ol : Nat) (BA WA OA : Option Addr) (bc wc oc : Nat) (w : World) (fo : Bool) (b : Bool) (hw : WideT at_ n v an orr co le nx) (hb : decide (tellP 1 0 bl wl at_ n v an orr co le mo.toNat nx ol fo.toNat) = b) :
    Calls Try.prog 9 #[.agg #[.int .i64 1, .int .i64 0, .slice BA bl bc, .slice WA wl wc, .int .i64 at_, .int .i64 n, .int .u16 v, .int .u16 an, .int .u16 orr, .int .i64 co, .int .i64 le, .bool mo, .int .i64 nx, .slice OA ol oc]] w fun e w' => e = .returned (.bool b) ∧ Below w.heap.size w w' := by
  have HB := Lib.hid hb
  have HW := Lib.hid hw
  clear hb hw
  have HK : Hid (kKnown 1 = true) := rfl
  obtain ⟨ha, hHA⟩ : ∃ c, decide (0 ≤ at_ ∧ at_ ≤ 65535) = c := ⟨_, rfl⟩
  obtain ⟨hn, hHN⟩ : ∃ c, decide (rangT 1 bl wl n v co le nx fo.toNat) = c := ⟨_, rfl⟩
  obtain ⟨hp, hHP⟩ : ∃ c, decide (restT 1 bl wl at_ n v an orr co le mo.toNat nx ol) = c := ⟨_, rfl⟩
  have HA := Lib.hid hHA
  have HN := Lib.hid hHN
  have HP := Lib.hid hHP
  clear hHA hHN hHP
  cases ha
  case false =>
    go_enter Try.func9, Try.ntmps9
    go_wp2_with (first
      | (go_at_call 27; refine (pknown_lit 1 true _ HK.out).mono ?_; rintro e w' ⟨rfl, rfl⟩)
      | (go_at_call 28; (with_reducible refine (isword_lit at_ _ _ HA.out).mono ?_); rintro e w' ⟨rfl, rfl⟩))
    go_ret
    refine ⟨ret_bool ?_, (Below.refl _ _).alloc (Nat.le_refl _) _⟩
    rw [← HB.out]
    exact (decide_eq_false (fun h => absurd (tell_nought.1 h).2.1 (of_decide_eq_false HA.out))).symm
  case true =>
  cases hn
  case false =>
    go_enter Try.func9, Try.ntmps9
    go_wp2_with (first
      | (go_at_call 27; refine (pknown_lit 1 true _ HK.out).mono ?_; rintro e w' ⟨rfl, rfl⟩)
      | (go_at_call 28; (with_reducible refine (isword_lit at_ _ _ HA.out).mono ?_); rintro e w' ⟨rfl, rfl⟩)
      | (go_at_call 29
         refine (prang_1 0 bl wl at_ n v an orr co le mo nx ol BA WA OA bc wc oc _ fo false HN.out).mono ?_
         rintro e w4 ⟨rfl, hb4⟩
         have HB4 : Hid (Below w.heap.size w w4) := ((Below.refl _ _).alloc (Nat.le_refl _) _).trans (hb4.mono (by simp))
         clear hb4))
    go_ret
    refine ⟨ret_bool ?_, HB4.out⟩
    rw [← HB.out]
    exact (decide_eq_false (fun h => absurd (tell_nought.1 h).2.2.1 (of_decide_eq_false HN.out))).symm
  case true =>
    go_enter Try.func9, Try.ntmps9
    go_wp2_with (first
      | (go_at_call 27; refine (pknown_lit 1 true _ HK.out).mono ?_; rintro e w' ⟨rfl, rfl⟩)
      | (go_at_call 28; (with_reducible refine (isword_lit at_ _ _ HA.out).mono ?_); rintro e w' ⟨rfl, rfl⟩)
      | (go_at_call 29
         refine (prang_1 0 bl wl at_ n v an orr co le mo nx ol BA WA OA bc wc oc _ fo true HN.out).mono ?_
         rintro e w4 ⟨rfl, hb4⟩
         have HB4 : Hid (Below w.heap.size w w4) := ((Below.refl _ _).alloc (Nat.le_refl _) _).trans (hb4.mono (by simp))
         have hk4 : Below (w.heap.size + 1) (w.alloc (.cells #[.int .i64 1, .int .i64 0, .slice BA bl bc, .slice WA wl wc, .int .i64 at_, .int .i64 n, .int .u16 v, .int .u16 an, .int .u16 orr, .int .i64 co, .int .i64 le, .bool mo, .int .i64 nx, .slice OA ol oc] 28)) w4 := by
           rwa [show (w.alloc (.cells #[.int .i64 1, .int .i64 0, .slice BA bl bc, .slice WA wl wc, .int .i64 at_, .int .i64 n, .int .u16 v, .int .u16 an, .int .u16 orr, .int .i64 co, .int .i64 le, .bool mo, .int .i64 nx, .slice OA ol oc] 28)).heap.size = w.heap.size + 1 by simp] at hb4
         obtain ⟨hc0, hc1, hc2, hc3, hc4, hc5, hc6, hc7, hc8, hc9, hc10, hc11, hc12, hc13⟩ := cells14 (box14 _ _ _ _ _ _ _ _ _ _ _ _ _ _ _ w w4 hk4)
         clear hb4 hk4)
      | (go_at_call 31
         refine (prest_1 0 bl wl at_ n v an orr co le mo nx ol BA WA OA bc wc oc _).mono ?_
         rintro e w5 ⟨rfl, hb5⟩
         have HB5 : Hid (Below w.heap.size w w5) := HB4.out.trans (hb5.mono HB4.out.size)
         clear hb5)
      | (go_at_call 30
         refine (pbareT 1 0 0 wl at_ n v an orr co le mo nx ol none WA OA 0 wc oc _ hp ⟨HW.out.a0, HW.out.a1, HW.out.n0, HW.out.n1, HW.out.v0, HW.out.v1, HW.out.d0, HW.out.d1, HW.out.o0, HW.out.o1, HW.out.c0, HW.out.c1, HW.out.l0, HW.out.l1, HW.out.x0, HW.out.x1⟩ (by rw [← HP.out]; exact decide_eq_decide.2 (by have t0 : false.toNat = 0 := rfl; unfold zeroT restT; omega))).mono ?_
         rintro e w6 ⟨rfl, hb6⟩
         have HB6 : Hid (Below w.heap.size w w6) := HB5.out.trans (hb6.mono HB5.out.size)
         clear hb6))
    go_ret
    refine ⟨ret_bool ?_, HB6.out⟩
    rw [← HB.out, ← HP.out]
    exact decide_eq_decide.2 ⟨fun h => tell_nought.2 ⟨rfl, of_decide_eq_true HA.out, of_decide_eq_true HN.out, h⟩, fun h => (tell_nought.1 h).2.2.2⟩

set_option maxHeartbeats 2000000 in
theorem ptr_2 (bl wl : Nat) (at_ n v an orr co le : Int) (mo : Bool) (nx : Int) (ol : Nat) (BA WA OA : Option Addr) (bc wc oc : Nat) (w : World) (fo : Bool) (b : Bool) (hw : WideT at_ n v an orr co le nx) (hb : decide (tellP 2 0 bl wl at_ n v an orr co le mo.toNat nx ol fo.toNat) = b) :
    Calls Try.prog 9 #[.agg #[.int .i64 2, .int .i64 0, .slice BA bl bc, .slice WA wl wc, .int .i64 at_, .int .i64 n, .int .u16 v, .int .u16 an, .int .u16 orr, .int .i64 co, .int .i64 le, .bool mo, .int .i64 nx, .slice OA ol oc]] w fun e w' => e = .returned (.bool b) ∧ Below w.heap.size w w' := by
  have HB := Lib.hid hb
  have HW := Lib.hid hw
  clear hb hw
  have HK : Hid (kKnown 2 = true) := rfl
  obtain ⟨ha, hHA⟩ : ∃ c, decide (0 ≤ at_ ∧ at_ ≤ 65535) = c := ⟨_, rfl⟩
  obtain ⟨hn, hHN⟩ : ∃ c, decide (rangT 2 bl wl n v co le nx fo.toNat) = c := ⟨_, rfl⟩
  obtain ⟨hp, hHP⟩ : ∃ c, decide (restT 2 bl wl at_ n v an orr co le mo.toNat nx ol) = c := ⟨_, rfl⟩
  have HA := Lib.hid hHA
  have HN := Lib.hid hHN
  have HP := Lib.hid hHP
  clear hHA hHN hHP
  cases ha
  case false =>
    go_enter Try.func9, Try.ntmps9
    go_wp2_with (first
      | (go_at_call 27; refine (pknown_lit 2 true _ HK.out).mono ?_; rintro e w' ⟨rfl, rfl⟩)
      | (go_at_call 28; (with_reducible refine (isword_lit at_ _ _ HA.out).mono ?_); rintro e w' ⟨rfl, rfl⟩))
    go_ret
    refine ⟨ret_bool ?_, (Below.refl _ _).alloc (Nat.le_refl _) _⟩
    rw [← HB.out]
    exact (decide_eq_false (fun h => absurd (tell_nought.1 h).2.1 (of_decide_eq_false HA.out))).symm
  case true =>
  cases hn
  case false =>
    go_enter Try.func9, Try.ntmps9
    go_wp2_with (first
      | (go_at_call 27; refine (pknown_lit 2 true _ HK.out).mono ?_; rintro e w' ⟨rfl, rfl⟩)
      | (go_at_call 28; (with_reducible refine (isword_lit at_ _ _ HA.out).mono ?_); rintro e w' ⟨rfl, rfl⟩)
      | (go_at_call 29
         refine (prang_2 0 bl wl at_ n v an orr co le mo nx ol BA WA OA bc wc oc _ fo false HN.out).mono ?_
         rintro e w4 ⟨rfl, hb4⟩
         have HB4 : Hid (Below w.heap.size w w4) := ((Below.refl _ _).alloc (Nat.le_refl _) _).trans (hb4.mono (by simp))
         clear hb4))
    go_ret
    refine ⟨ret_bool ?_, HB4.out⟩
    rw [← HB.out]
    exact (decide_eq_false (fun h => absurd (tell_nought.1 h).2.2.1 (of_decide_eq_false HN.out))).symm
  case true =>
    go_enter Try.func9, Try.ntmps9
    go_wp2_with (first
      | (go_at_call 27; refine (pknown_lit 2 true _ HK.out).mono ?_; rintro e w' ⟨rfl, rfl⟩)
      | (go_at_call 28; (with_reducible refine (isword_lit at_ _ _ HA.out).mono ?_); rintro e w' ⟨rfl, rfl⟩)
      | (go_at_call 29
         refine (prang_2 0 bl wl at_ n v an orr co le mo nx ol BA WA OA bc wc oc _ fo true HN.out).mono ?_
         rintro e w4 ⟨rfl, hb4⟩
         have HB4 : Hid (Below w.heap.size w w4) := ((Below.refl _ _).alloc (Nat.le_refl _) _).trans (hb4.mono (by simp))
         have hk4 : Below (w.heap.size + 1) (w.alloc (.cells #[.int .i64 2, .int .i64 0, .slice BA bl bc, .slice WA wl wc, .int .i64 at_, .int .i64 n, .int .u16 v, .int .u16 an, .int .u16 orr, .int .i64 co, .int .i64 le, .bool mo, .int .i64 nx, .slice OA ol oc] 28)) w4 := by
           rwa [show (w.alloc (.cells #[.int .i64 2, .int .i64 0, .slice BA bl bc, .slice WA wl wc, .int .i64 at_, .int .i64 n, .int .u16 v, .int .u16 an, .int .u16 orr, .int .i64 co, .int .i64 le, .bool mo, .int .i64 nx, .slice OA ol oc] 28)).heap.size = w.heap.size + 1 by simp] at hb4
         obtain ⟨hc0, hc1, hc2, hc3, hc4, hc5, hc6, hc7, hc8, hc9, hc10, hc11, hc12, hc13⟩ := cells14 (box14 _ _ _ _ _ _ _ _ _ _ _ _ _ _ _ w w4 hk4)
         clear hb4 hk4)
      | (go_at_call 31
         refine (prest_2 0 bl wl at_ n v an orr co le mo nx ol BA WA OA bc wc oc _).mono ?_
         rintro e w5 ⟨rfl, hb5⟩
         have HB5 : Hid (Below w.heap.size w w5) := HB4.out.trans (hb5.mono HB4.out.size)
         clear hb5)
      | (go_at_call 30
         refine (pbareT 2 0 0 wl at_ n v an orr co le mo nx ol none WA OA 0 wc oc _ hp ⟨HW.out.a0, HW.out.a1, HW.out.n0, HW.out.n1, HW.out.v0, HW.out.v1, HW.out.d0, HW.out.d1, HW.out.o0, HW.out.o1, HW.out.c0, HW.out.c1, HW.out.l0, HW.out.l1, HW.out.x0, HW.out.x1⟩ (by rw [← HP.out]; exact decide_eq_decide.2 (by have t0 : false.toNat = 0 := rfl; unfold zeroT restT; omega))).mono ?_
         rintro e w6 ⟨rfl, hb6⟩
         have HB6 : Hid (Below w.heap.size w w6) := HB5.out.trans (hb6.mono HB5.out.size)
         clear hb6))
    go_ret
    refine ⟨ret_bool ?_, HB6.out⟩
    rw [← HB.out, ← HP.out]
    exact decide_eq_decide.2 ⟨fun h => tell_nought.2 ⟨rfl, of_decide_eq_true HA.out, of_decide_eq_true HN.out, h⟩, fun h => (tell_nought.1 h).2.2.2⟩

set_option maxHeartbeats 2000000 in
theorem ptr_3 (bl wl : Nat) (at_ n v an orr co le : Int) (mo : Bool) (nx : Int) (ol : Nat) (BA WA OA : Option Addr) (bc wc oc : Nat) (w : World) (fo : Bool) (b : Bool) (hw : WideT at_ n v an orr co le nx) (hb : decide (tellP 3 0 bl wl at_ n v an orr co le mo.toNat nx ol fo.toNat) = b) :
    Calls Try.prog 9 #[.agg #[.int .i64 3, .int .i64 0, .slice BA bl bc, .slice WA wl wc, .int .i64 at_, .int .i64 n, .int .u16 v, .int .u16 an, .int .u16 orr, .int .i64 co, .int .i64 le, .bool mo, .int .i64 nx, .slice OA ol oc]] w fun e w' => e = .returned (.bool b) ∧ Below w.heap.size w w' := by
  have HB := Lib.hid hb
  have HW := Lib.hid hw
  clear hb hw
  have HK : Hid (kKnown 3 = true) := rfl
  obtain ⟨ha, hHA⟩ : ∃ c, decide (0 ≤ at_ ∧ at_ ≤ 65535) = c := ⟨_, rfl⟩
  obtain ⟨hn, hHN⟩ : ∃ c, decide (rangT 3 bl wl n v co le nx fo.toNat) = c := ⟨_, rfl⟩
  obtain ⟨hp, hHP⟩ : ∃ c, decide (restT 3 bl wl at_ n v an orr co le mo.toNat nx ol) = c := ⟨_, rfl⟩
  have HA := Lib.hid hHA
  have HN := Lib.hid hHN
  have HP := Lib.hid hHP
  clear hHA hHN hHP
  cases ha
  case false =>
    go_enter Try.func9, Try.ntmps9
    go_wp2_with (first
      | (go_at_call 27; refine (pknown_lit 3 true _ HK.out).mono ?_; rintro e w' ⟨rfl, rfl⟩)
      | (go_at_call 28; (with_reducible refine (isword_lit at_ _ _ HA.out).mono ?_); rintro e w' ⟨rfl, rfl⟩))
    go_ret
    refine ⟨ret_bool ?_, (Below.refl _ _).alloc (Nat.le_refl _) _⟩
    rw [← HB.out]
    exact (decide_eq_false (fun h => absurd (tell_nought.1 h).2.1 (of_decide_eq_false HA.out))).symm
  case true =>
  cases hn
  case false =>
    go_enter Try.func9, Try.ntmps9
    go_wp2_with (first
      | (go_at_call 27; refine (pknown_lit 3 true _ HK.out).mono ?_; rintro e w' ⟨rfl, rfl⟩)
      | (go_at_call 28; (with_reducible refine (isword_lit at_ _ _ HA.out).mono ?_); rintro e w' ⟨rfl, rfl⟩)
      | (go_at_call 29
         refine (prang_3 0 bl wl at_ n v an orr co le mo nx ol BA WA OA bc wc oc _ fo false HN.out).mono ?_
         rintro e w4 ⟨rfl, hb4⟩
         have HB4 : Hid (Below w.heap.size w w4) := ((Below.refl _ _).alloc (Nat.le_refl _) _).trans (hb4.mono (by simp))
         clear hb4))
    go_ret
    refine ⟨ret_bool ?_, HB4.out⟩
    rw [← HB.out]
    exact (decide_eq_false (fun h => absurd (tell_nought.1 h).2.2.1 (of_decide_eq_false HN.out))).symm
  case true =>
    go_enter Try.func9, Try.ntmps9
    go_wp2_with (first
      | (go_at_call 27; refine (pknown_lit 3 true _ HK.out).mono ?_; rintro e w' ⟨rfl, rfl⟩)
      | (go_at_call 28; (with_reducible refine (isword_lit at_ _ _ HA.out).mono ?_); rintro e w' ⟨rfl, rfl⟩)
      | (go_at_call 29
         refine (prang_3 0 bl wl at_ n v an orr co le mo nx ol BA WA OA bc wc oc _ fo true HN.out).mono ?_
         rintro e w4 ⟨rfl, hb4⟩
         have HB4 : Hid (Below w.heap.size w w4) := ((Below.refl _ _).alloc (Nat.le_refl _) _).trans (hb4.mono (by simp))
         have hk4 : Below (w.heap.size + 1) (w.alloc (.cells #[.int .i64 3, .int .i64 0, .slice BA bl bc, .slice WA wl wc, .int .i64 at_, .int .i64 n, .int .u16 v, .int .u16 an, .int .u16 orr, .int .i64 co, .int .i64 le, .bool mo, .int .i64 nx, .slice OA ol oc] 28)) w4 := by
           rwa [show (w.alloc (.cells #[.int .i64 3, .int .i64 0, .slice BA bl bc, .slice WA wl wc, .int .i64 at_, .int .i64 n, .int .u16 v, .int .u16 an, .int .u16 orr, .int .i64 co, .int .i64 le, .bool mo, .int .i64 nx, .slice OA ol oc] 28)).heap.size = w.heap.size + 1 by simp] at hb4
         obtain ⟨hc0, hc1, hc2, hc3, hc4, hc5, hc6, hc7, hc8, hc9, hc10, hc11, hc12, hc13⟩ := cells14 (box14 _ _ _ _ _ _ _ _ _ _ _ _ _ _ _ w w4 hk4)
         clear hb4 hk4)
      | (go_at_call 31
         refine (prest_3 0 bl wl at_ n v an orr co le mo nx ol BA WA OA bc wc oc _).mono ?_
         rintro e w5 ⟨rfl, hb5⟩
         have HB5 : Hid (Below w.heap.size w w5) := HB4.out.trans (hb5.mono HB4.out.size)
         clear hb5)
      | (go_at_call 30
         refine (pbareT 3 0 bl 0 at_ n v an orr co le mo nx ol BA none OA bc 0 oc _ hp ⟨HW.out.a0, HW.out.a1, HW.out.n0, HW.out.n1, HW.out.v0, HW.out.v1, HW.out.d0, HW.out.d1, HW.out.o0, HW.out.o1, HW.out.c0, HW.out.c1, HW.out.l0, HW.out.l1, HW.out.x0, HW.out.x1⟩ (by rw [← HP.out]; exact decide_eq_decide.2 (by have t0 : false.toNat = 0 := rfl; unfold zeroT restT; omega))).mono ?_
         rintro e w6 ⟨rfl, hb6⟩
         have HB6 : Hid (Below w.heap.size w w6) := HB5.out.trans (hb6.mono HB5.out.size)
         clear hb6))
    go_ret
    refine ⟨ret_bool ?_, HB6.out⟩
    rw [← HB.out, ← HP.out]
    exact decide_eq_decide.2 ⟨fun h => tell_nought.2 ⟨rfl, of_decide_eq_true HA.out, of_decide_eq_true HN.out, h⟩, fun h => (tell_nought.1 h).2.2.2⟩

set_option maxHeartbeats 2000000 in
theorem ptr_4 (bl wl : Nat) (at_ n v an orr co le : Int) (mo : Bool) (nx : Int) (ol : Nat) (BA WA OA : Option Addr) (bc wc oc : Nat) (w : World) (fo : Bool) (b : Bool) (hw : WideT at_ n v an orr co le nx) (hb : decide (tellP 4 0 bl wl at_ n v an orr co le mo.toNat nx ol fo.toNat) = b) :
    Calls Try.prog 9 #[.agg #[.int .i64 4, .int .i64 0, .slice BA bl bc, .slice WA wl wc, .int .i64 at_, .int .i64 n, .int .u16 v, .int .u16 an, .int .u16 orr, .int .i64 co, .int .i64 le, .bool mo, .int .i64 nx, .slice OA ol oc]] w fun e w' => e = .returned (.bool b) ∧ Below w.heap.size w w' := by
  have HB := Lib.hid hb
  have HW := Lib.hid hw
  clear hb hw
  have HK : Hid (kKnown 4 = true) := rfl
  obtain ⟨ha, hHA⟩ : ∃ c, decide (0 ≤ at_ ∧ at_ ≤ 65535) = c := ⟨_, rfl⟩
  obtain ⟨hn, hHN⟩ : ∃ c, decide (rangT 4 bl wl n v co le nx fo.toNat) = c := ⟨_, rfl⟩
  obtain ⟨hp, hHP⟩ : ∃ c, decide (restT 4 bl wl at_ n v an orr co le mo.toNat nx ol) = c := ⟨_, rfl⟩
  have HA := Lib.hid hHA
  have HN := Lib.hid hHN
  have HP := Lib.hid hHP
  clear hHA hHN hHP
  cases ha
  case false =>
    go_enter Try.func9, Try.ntmps9
    go_wp2_with (first
      | (go_at_call 27; refine (pknown_lit 4 true _ HK.out).mono ?_; rintro e w' ⟨rfl, rfl⟩)
      | (go_at_call 28; (with_reducible refine (isword_lit at_ _ _ HA.out).mono ?_); rintro e w' ⟨rfl, rfl⟩))
    go_ret
    refine ⟨ret_bool ?_, (Below.refl _ _).alloc (Nat.le_refl _) _⟩
    rw [← HB.out]
    exact (decide_eq_false (fun h => absurd (tell_nought.1 h).2.1 (of_decide_eq_false HA.out))).symm
  case true =>
  cases hn
  case false =>
    go_enter Try.func9, Try.ntmps9
    go_wp2_with (first
      | (go_at_call 27; refine (pknown_lit 4 true _ HK.out).mono ?_; rintro e w' ⟨rfl, rfl⟩)
      | (go_at_call 28; (with_reducible refine (isword_lit at_ _ _ HA.out).mono ?_); rintro e w' ⟨rfl, rfl⟩)
      | (go_at_call 29
         refine (prang_4 0 bl wl at_ n v an orr co le mo nx ol BA WA OA bc wc oc _ fo false HN.out).mono ?_
         rintro e w4 ⟨rfl, hb4⟩
         have HB4 : Hid (Below w.heap.size w w4) := ((Below.refl _ _).alloc (Nat.le_refl _) _).trans (hb4.mono (by simp))
         clear hb4))
    go_ret
    refine ⟨ret_bool ?_, HB4.out⟩
    rw [← HB.out]
    exact (decide_eq_false (fun h => absurd (tell_nought.1 h).2.2.1 (of_decide_eq_false HN.out))).symm
  case true =>
    go_enter Try.func9, Try.ntmps9
    go_wp2_with (first
      | (go_at_call 27; refine (pknown_lit 4 true _ HK.out).mono ?_; rintro e w' ⟨rfl, rfl⟩)
      | (go_at_call 28; (with_reducible refine (isword_lit at_ _ _ HA.out).mono ?_); rintro e w' ⟨rfl, rfl⟩)
      | (go_at_call 29
         refine (prang_4 0 bl wl at_ n v an orr co le mo nx ol BA WA OA bc wc oc _ fo true HN.out).mono ?_
         rintro e w4 ⟨rfl, hb4⟩
         have HB4 : Hid (Below w.heap.size w w4) := ((Below.refl _ _).alloc (Nat.le_refl _) _).trans (hb4.mono (by simp))
         have hk4 : Below (w.heap.size + 1) (w.alloc (.cells #[.int .i64 4, .int .i64 0, .slice BA bl bc, .slice WA wl wc, .int .i64 at_, .int .i64 n, .int .u16 v, .int .u16 an, .int .u16 orr, .int .i64 co, .int .i64 le, .bool mo, .int .i64 nx, .slice OA ol oc] 28)) w4 := by
           rwa [show (w.alloc (.cells #[.int .i64 4, .int .i64 0, .slice BA bl bc, .slice WA wl wc, .int .i64 at_, .int .i64 n, .int .u16 v, .int .u16 an, .int .u16 orr, .int .i64 co, .int .i64 le, .bool mo, .int .i64 nx, .slice OA ol oc] 28)).heap.size = w.heap.size + 1 by simp] at hb4
         obtain ⟨hc0, hc1, hc2, hc3, hc4, hc5, hc6, hc7, hc8, hc9, hc10, hc11, hc12, hc13⟩ := cells14 (box14 _ _ _ _ _ _ _ _ _ _ _ _ _ _ _ w w4 hk4)
         clear hb4 hk4)
      | (go_at_call 31
         refine (prest_4 0 bl wl at_ n v an orr co le mo nx ol BA WA OA bc wc oc _).mono ?_
         rintro e w5 ⟨rfl, hb5⟩
         have HB5 : Hid (Below w.heap.size w w5) := HB4.out.trans (hb5.mono HB4.out.size)
         clear hb5)
      | (go_at_call 30
         refine (pbareT 4 0 bl 0 at_ n v an orr co le mo nx ol BA none OA bc 0 oc _ hp ⟨HW.out.a0, HW.out.a1, HW.out.n0, HW.out.n1, HW.out.v0, HW.out.v1, HW.out.d0, HW.out.d1, HW.out.o0, HW.out.o1, HW.out.c0, HW.out.c1, HW.out.l0, HW.out.l1, HW.out.x0, HW.out.x1⟩ (by rw [← HP.out]; exact decide_eq_decide.2 (by have t0 : false.toNat = 0 := rfl; unfold zeroT restT; omega))).mono ?_
         rintro e w6 ⟨rfl, hb6⟩
         have HB6 : Hid (Below w.heap.size w w6) := HB5.out.trans (hb6.mono HB5.out.size)
         clear hb6))
    go_ret
    refine ⟨ret_bool ?_, HB6.out⟩
    rw [← HB.out, ← HP.out]
    exact decide_eq_decide.2 ⟨fun h => tell_nought.2 ⟨rfl, of_decide_eq_true HA.out, of_decide_eq_true HN.out, h⟩, fun h => (tell_nought.1 h).2.2.2⟩

set_option maxHeartbeats 2000000 in
theorem ptr_5 (bl wl : Nat) (at_ n v an orr co le : Int) (mo : Bool) (nx : Int) (ol : Nat) (BA WA OA : Option Addr) (bc wc oc : Nat) (w : World) (fo : Bool) (b : Bool) (hw : WideT at_ n v an orr co le nx) (hb : decide (tellP 5 0 bl wl at_ n v an orr co le mo.toNat nx ol fo.toNat) = b) :
    Calls Try.prog 9 #[.agg #[.int .i64 5, .int .i64 0, .slice BA bl bc, .slice WA wl wc, .int .i64 at_, .int .i64 n, .int .u16 v, .int .u16 an, .int .u16 orr, .int .i64 co, .int .i64 le, .bool mo, .int .i64 nx, .slice OA ol oc]] w fun e w' => e = .returned (.bool b) ∧ Below w.heap.size w w' := by
  have HB := Lib.hid hb
  have HW := Lib.hid hw
  clear hb hw
  have HK : Hid (kKnown 5 = true) := rfl
  obtain ⟨ha, hHA⟩ : ∃ c, decide (0 ≤ at_ ∧ at_ ≤ 65535) = c := ⟨_, rfl⟩
  obtain ⟨hn, hHN⟩ : ∃ c, decide (rangT 5 bl wl n v co le nx fo.toNat) = c := ⟨_, rfl⟩
  obtain ⟨hp, hHP⟩ : ∃ c, decide (restT 5 bl wl at_ n v an orr co le mo.toNat nx ol) = c := ⟨_, rfl⟩
  have HA := Lib.hid hHA
  have HN := Lib.hid hHN
  have HP := Lib.hid hHP
  clear hHA hHN hHP
  cases ha
  case false =>
    go_enter Try.func9, Try.ntmps9
    go_wp2_with (first
      | (go_at_call 27; refine (pknown_lit 5 true _ HK.out).mono ?_; rintro e w' ⟨rfl, rfl⟩)
      | (go_at_call 28; (with_reducible refine (isword_lit at_ _ _ HA.out).mono ?_); rintro e w' ⟨rfl, rfl⟩))
    go_ret
    refine ⟨ret_bool ?_, (Below.refl _ _).alloc (Nat.le_refl _) _⟩
    rw [← HB.out]
    exact (decide_eq_false (fun h => absurd (tell_nought.1 h).2.1 (of_decide_eq_false HA.out))).symm
  case true =>
  cases hn
  case false =>
    go_enter Try.func9, Try.ntmps9
    go_wp2_with (first
      | (go_at_call 27; refine (pknown_lit 5 true _ HK.out).mono ?_; rintro e w' ⟨rfl, rfl⟩)
      | (go_at_call 28; (with_reducible refine (isword_lit at_ _ _ HA.out).mono ?_); rintro e w' ⟨rfl, rfl⟩)
      | (go_at_call 29
         refine (prang_5 0 bl wl at_ n v an orr co le mo nx ol BA WA OA bc wc oc _ fo false HN.out).mono ?_
         rintro e w4 ⟨rfl, hb4⟩
         have HB4 : Hid (Below w.heap.size w w4) := ((Below.refl _ _).alloc (Nat.le_refl _) _).trans (hb4.mono (by simp))
         clear hb4))
    go_ret
    refine ⟨ret_bool ?_, HB4.out⟩
    rw [← HB.out]
    exact (decide_eq_false (fun h => absurd (tell_nought.1 h).2.2.1 (of_decide_eq_false HN.out))).symm
  case true =>
    go_enter Try.func9, Try.ntmps9
    go_wp2_with (first
      | (go_at_call 27; refine (pknown_lit 5 true _ HK.out).mono ?_; rintro e w' ⟨rfl, rfl⟩)
      | (go_at_call 28; (with_reducible refine (isword_lit at_ _ _ HA.out).mono ?_); rintro e w' ⟨rfl, rfl⟩)
      | (go_at_call 29
         refine (prang_5 0 bl wl at_ n v an orr co le mo nx ol BA WA OA bc wc oc _ fo true HN.out).mono ?_
         rintro e w4 ⟨rfl, hb4⟩
         have HB4 : Hid (Below w.heap.size w w4) := ((Below.refl _ _).alloc (Nat.le_refl _) _).trans (hb4.mono (by simp))
         have hk4 : Below (w.heap.size + 1) (w.alloc (.cells #[.int .i64 5, .int .i64 0, .slice BA bl bc, .slice WA wl wc, .int .i64 at_, .int .i64 n, .int .u16 v, .int .u16 an, .int .u16 orr, .int .i64 co, .int .i64 le, .bool mo, .int .i64 nx, .slice OA ol oc] 28)) w4 := by
           rwa [show (w.alloc (.cells #[.int .i64 5, .int .i64 0, .slice BA bl bc, .slice WA wl wc, .int .i64 at_, .int .i64 n, .int .u16 v, .int .u16 an, .int .u16 orr, .int .i64 co, .int .i64 le, .bool mo, .int .i64 nx, .slice OA ol oc] 28)).heap.size = w.heap.size + 1 by simp] at hb4
         obtain ⟨hc0, hc1, hc2, hc3, hc4, hc5, hc6, hc7, hc8, hc9, hc10, hc11, hc12, hc13⟩ := cells14 (box14 _ _ _ _ _ _ _ _ _ _ _ _ _ _ _ w w4 hk4)
         clear hb4 hk4)
      | (go_at_call 31
         refine (prest_5 0 bl wl at_ n v an orr co le mo nx ol BA WA OA bc wc oc _).mono ?_
         rintro e w5 ⟨rfl, hb5⟩
         have HB5 : Hid (Below w.heap.size w w5) := HB4.out.trans (hb5.mono HB4.out.size)
         clear hb5)
      | (go_at_call 30
         refine (pbareT 5 0 bl wl 0 n 0 an orr co le mo nx ol BA WA OA bc wc oc _ hp ⟨by omega, by omega, HW.out.n0, HW.out.n1, by omega, by omega, HW.out.d0, HW.out.d1, HW.out.o0, HW.out.o1, HW.out.c0, HW.out.c1, HW.out.l0, HW.out.l1, HW.out.x0, HW.out.x1⟩ (by rw [← HP.out]; exact decide_eq_decide.2 (by have t0 : false.toNat = 0 := rfl; unfold zeroT restT; omega))).mono ?_
         rintro e w6 ⟨rfl, hb6⟩
         have HB6 : Hid (Below w.heap.size w w6) := HB5.out.trans (hb6.mono HB5.out.size)
         clear hb6))
    go_ret
    refine ⟨ret_bool ?_, HB6.out⟩
    rw [← HB.out, ← HP.out]
    exact decide_eq_decide.2 ⟨fun h => tell_nought.2 ⟨rfl, of_decide_eq_true HA.out, of_decide_eq_true HN.out, h⟩, fun h => (tell_nought.1 h).2.2.2⟩

set_option maxHeartbeats 2000000 in
theorem ptr_6 (bl wl : Nat) (at_ n v an orr co le : Int) (mo : Bool) (nx : Int) (ol : Nat) (BA WA OA : Option Addr) (bc wc oc : Nat) (w : World) (fo : Bool) (b : Bool) (hw : WideT at_ n v an orr co le nx) (hb : decide (tellP 6 0 bl wl at_ n v an orr co le mo.toNat nx ol fo.toNat) = b) :
    Calls Try.prog 9 #[.agg #[.int .i64 6, .int .i64 0, .slice BA bl bc, .slice WA wl wc, .int .i64 at_, .int .i64 n, .int .u16 v, .int .u16 an, .int .u16 orr, .int .i64 co, .int .i64 le, .bool mo, .int .i64 nx, .slice OA ol oc]] w fun e w' => e = .returned (.bool b) ∧ Below w.heap.size w w' := by
  have HB := Lib.hid hb
  have HW := Lib.hid hw
  clear hb hw
  have HK : Hid (kKnown 6 = true) := rfl
  obtain ⟨ha, hHA⟩ : ∃ c, decide (0 ≤ at_ ∧ at_ ≤ 65535) = c := ⟨_, rfl⟩
  obtain ⟨hn, hHN⟩ : ∃ c, decide (rangT 6 bl wl n v co le nx fo.toNat) = c := ⟨_, rfl⟩
  obtain ⟨hp, hHP⟩ : ∃ c, decide (restT 6 bl wl at_ n v an orr co le mo.toNat nx ol) = c := ⟨_, rfl⟩
  have HA := Lib.hid hHA
  have HN := Lib.hid hHN
  have HP := Lib.hid hHP
  clear hHA hHN hHP
  cases ha
  case false =>
    go_enter Try.func9, Try.ntmps9
    go_wp2_with (first
      | (go_at_call 27; refine (pknown_lit 6 true _ HK.out).mono ?_; rintro e w' ⟨rfl, rfl⟩)
      | (go_at_call 28; (with_reducible refine (isword_lit at_ _ _ HA.out).mono ?_); rintro e w' ⟨rfl, rfl⟩))
    go_ret
    refine ⟨ret_bool ?_, (Below.refl _ _).alloc (Nat.le_refl _) _⟩
    rw [← HB.out]
    exact (decide_eq_false (fun h => absurd (tell_nought.1 h).2.1 (of_decide_eq_false HA.out))).symm
  case true =>
  cases hn
  case false =>
    go_enter Try.func9, Try.ntmps9
    go_wp2_with (first
      | (go_at_call 27; refine (pknown_lit 6 true _ HK.out).mono ?_; rintro e w' ⟨rfl, rfl⟩)
      | (go_at_call 28; (with_reducible refine (isword_lit at_ _ _ HA.out).mono ?_); rintro e w' ⟨rfl, rfl⟩)
      | (go_at_call 29
         refine (prang_6 0 bl wl at_ n v an orr co le mo nx ol BA WA OA bc wc oc _ fo false HN.out).mono ?_
         rintro e w4 ⟨rfl, hb4⟩
         have HB4 : Hid (Below w.heap.size w w4) := ((Below.refl _ _).alloc (Nat.le_refl _) _).trans (hb4.mono (by simp))
         clear hb4))
    go_ret
    refine ⟨ret_bool ?_, HB4.out⟩
    rw [← HB.out]
    exact (decide_eq_false (fun h => absurd (tell_nought.1 h).2.2.1 (of_decide_eq_false HN.out))).symm
  case true =>
    go_enter Try.func9, Try.ntmps9
    go_wp2_with (first
      | (go_at_call 27; refine (pknown_lit 6 true _ HK.out).mono ?_; rintro e w' ⟨rfl, rfl⟩)
      | (go_at_call 28; (with_reducible refine (isword_lit at_ _ _ HA.out).mono ?_); rintro e w' ⟨rfl, rfl⟩)
      | (go_at_call 29
         refine (prang_6 0 bl wl at_ n v an orr co le mo nx ol BA WA OA bc wc oc _ fo true HN.out).mono ?_
         rintro e w4 ⟨rfl, hb4⟩
         have HB4 : Hid (Below w.heap.size w w4) := ((Below.refl _ _).alloc (Nat.le_refl _) _).trans (hb4.mono (by simp))
         have hk4 : Below (w.heap.size + 1) (w.alloc (.cells #[.int .i64 6, .int .i64 0, .slice BA bl bc, .slice WA wl wc, .int .i64 at_, .int .i64 n, .int .u16 v, .int .u16 an, .int .u16 orr, .int .i64 co, .int .i64 le, .bool mo, .int .i64 nx, .slice OA ol oc] 28)) w4 := by
           rwa [show (w.alloc (.cells #[.int .i64 6, .int .i64 0, .slice BA bl bc, .slice WA wl wc, .int .i64 at_, .int .i64 n, .int .u16 v, .int .u16 an, .int .u16 orr, .int .i64 co, .int .i64 le, .bool mo, .int .i64 nx, .slice OA ol oc] 28)).heap.size = w.heap.size + 1 by simp] at hb4
         obtain ⟨hc0, hc1, hc2, hc3, hc4, hc5, hc6, hc7, hc8, hc9, hc10, hc11, hc12, hc13⟩ := cells14 (box14 _ _ _ _ _ _ _ _ _ _ _ _ _ _ _ w w4 hk4)
         clear hb4 hk4)
      | (go_at_call 31
         refine (prest_6 0 bl wl at_ n v an orr co le mo nx ol BA WA OA bc wc oc _).mono ?_
         rintro e w5 ⟨rfl, hb5⟩
         have HB5 : Hid (Below w.heap.size w w5) := HB4.out.trans (hb5.mono HB4.out.size)
         clear hb5)
      | (go_at_call 30
         refine (pbareT 6 0 bl wl 0 n 0 an orr co le mo nx ol BA WA OA bc wc oc _ hp ⟨by omega, by omega, HW.out.n0, HW.out.n1, by omega, by omega, HW.out.d0, HW.out.d1, HW.out.o0, HW.out.o1, HW.out.c0, HW.out.c1, HW.out.l0, HW.out.l1, HW.out.x0, HW.out.x1⟩ (by rw [← HP.out]; exact decide_eq_decide.2 (by have t0 : false.toNat = 0 := rfl; unfold zeroT restT; omega))).mono ?_
         rintro e w6 ⟨rfl, hb6⟩
         have HB6 : Hid (Below w.heap.size w w6) := HB5.out.trans (hb6.mono HB5.out.size)
         clear hb6))
    go_ret
    refine ⟨ret_bool ?_, HB6.out⟩
    rw [← HB.out, ← HP.out]
    exact decide_eq_decide.2 ⟨fun h => tell_nought.2 ⟨rfl, of_decide_eq_true HA.out, of_decide_eq_true HN.out, h⟩, fun h => (tell_nought.1 h).2.2.2⟩

set_option maxHeartbeats 2000000 in
theorem ptr_15 (bl wl : Nat) (at_ n v an orr co le : Int) (mo : Bool) (nx : Int) (ol : Nat) (BA WA OA : Option Addr) (bc wc oc : Nat) (w : World) (fo : Bool) (b : Bool) (hw : WideT at_ n v an orr co le nx) (hb : decide (tellP 15 0 bl wl at_ n v an orr co le mo.toNat nx ol fo.toNat) = b) :
    Calls Try.prog 9 #[.agg #[.int .i64 15, .int .i64 0, .slice BA bl bc, .slice WA wl wc, .int .i64 at_, .int .i64 n, .int .u16 v, .int .u16 an, .int .u16 orr, .int .i64 co, .int .i64 le, .bool mo, .int .i64 nx, .slice OA ol oc]] w fun e w' => e = .returned (.bool b) ∧ Below w.heap.size w w' := by
  have HB := Lib.hid hb
  have HW := Lib.hid hw
  clear hb hw
  have HK : Hid (kKnown 15 = true) := rfl
  obtain ⟨ha, hHA⟩ : ∃ c, decide (0 ≤ at_ ∧ at_ ≤ 65535) = c := ⟨_, rfl⟩
  obtain ⟨hn, hHN⟩ : ∃ c, decide (rangT 15 bl wl n v co le nx fo.toNat) = c := ⟨_, rfl⟩
  obtain ⟨hp, hHP⟩ : ∃ c, decide (restT 15 bl wl at_ n v an orr co le mo.toNat nx ol) = c := ⟨_, rfl⟩
  have HA := Lib.hid hHA
  have HN := Lib.hid hHN
  have HP := Lib.hid hHP
  clear hHA hHN hHP
  cases ha
  case false =>
    go_enter Try.func9, Try.ntmps9
    go_wp2_with (first
      | (go_at_call 27; refine (pknown_lit 15 true _ HK.out).mono ?_; rintro e w' ⟨rfl, rfl⟩)
      | (go_at_call 28; (with_reducible refine (isword_lit at_ _ _ HA.out).mono ?_); rintro e w' ⟨rfl, rfl⟩))
    go_ret
    refine ⟨ret_bool ?_, (Below.refl _ _).alloc (Nat.le_refl _) _⟩
    rw [← HB.out]
    exact (decide_eq_false (fun h => absurd (tell_nought.1 h).2.1 (of_decide_eq_false HA.out))).symm
  case true =>
  cases hn
  case false =>
    go_enter Try.func9, Try.ntmps9
    go_wp2_with (first
      | (go_at_call 27; refine (pknown_lit 15 true _ HK.out).mono ?_; rintro e w' ⟨rfl, rfl⟩)
      | (go_at_call 28; (with_reducible refine (isword_lit at_ _ _ HA.out).mono ?_); rintro e w' ⟨rfl, rfl⟩)
      | (go_at_call 29
         refine (prang_15 0 bl wl at_ n v an orr co le mo nx ol BA WA OA bc wc oc _ fo false HN.out).mono ?_
         rintro e w4 ⟨rfl, hb4⟩
         have HB4 : Hid (Below w.heap.size w w4) := ((Below.refl _ _).alloc (Nat.le_refl _) _).trans (hb4.mono (by simp))
         clear hb4))
    go_ret
    refine ⟨ret_bool ?_, HB4.out⟩
    rw [← HB.out]
    exact (decide_eq_false (fun h => absurd (tell_nought.1 h).2.2.1 (of_decide_eq_false HN.out))).symm
  case true =>
    go_enter Try.func9, Try.ntmps9
    go_wp2_with (first
      | (go_at_call 27; refine (pknown_lit 15 true _ HK.out).mono ?_; rintro e w' ⟨rfl, rfl⟩)
      | (go_at_call 28; (with_reducible refine (isword_lit at_ _ _ HA.out).mono ?_); rintro e w' ⟨rfl, rfl⟩)
      | (go_at_call 29
         refine (prang_15 0 bl wl at_ n v an orr co le mo nx ol BA WA OA bc wc oc _ fo true HN.out).mono ?_
         rintro e w4 ⟨rfl, hb4⟩
         have HB4 : Hid (Below w.heap.size w w4) := ((Below.refl _ _).alloc (Nat.le_refl _) _).trans (hb4.mono (by simp))
         have hk4 : Below (w.heap.size + 1) (w.alloc (.cells #[.int .i64 15, .int .i64 0, .slice BA bl bc, .slice WA wl wc, .int .i64 at_, .int .i64 n, .int .u16 v, .int .u16 an, .int .u16 orr, .int .i64 co, .int .i64 le, .bool mo, .int .i64 nx, .slice OA ol oc] 28)) w4 := by
           rwa [show (w.alloc (.cells #[.int .i64 15, .int .i64 0, .slice BA bl bc, .slice WA wl wc, .int .i64 at_, .int .i64 n, .int .u16 v, .int .u16 an, .int .u16 orr, .int .i64 co, .int .i64 le, .bool mo, .int .i64 nx, .slice OA ol oc] 28)).heap.size = w.heap.size + 1 by simp] at hb4
         obtain ⟨hc0, hc1, hc2, hc3, hc4, hc5, hc6, hc7, hc8, hc9, hc10, hc11, hc12, hc13⟩ := cells14 (box14 _ _ _ _ _ _ _ _ _ _ _ _ _ _ _ w w4 hk4)
         clear hb4 hk4)
      | (go_at_call 31
         refine (prest_15 0 bl wl at_ n v an orr co le mo nx ol BA WA OA bc wc oc _).mono ?_
         rintro e w5 ⟨rfl, hb5⟩
         have HB5 : Hid (Below w.heap.size w w5) := HB4.out.trans (hb5.mono HB4.out.size)
         clear hb5)
      | (go_at_call 30
         refine (pbareT 15 0 bl wl 0 0 v an orr co le mo nx ol BA WA OA bc wc oc _ hp ⟨by omega, by omega, by omega, by omega, HW.out.v0, HW.out.v1, HW.out.d0, HW.out.d1, HW.out.o0, HW.out.o1, HW.out.c0, HW.out.c1, HW.out.l0, HW.out.l1, HW.out.x0, HW.out.x1⟩ (by rw [← HP.out]; exact decide_eq_decide.2 (by have t0 : false.toNat = 0 := rfl; unfold zeroT restT; omega))).mono ?_
         rintro e w6 ⟨rfl, hb6⟩
         have HB6 : Hid (Below w.heap.size w w6) := HB5.out.trans (hb6.mono HB5.out.size)
         clear hb6))
    go_ret
    refine ⟨ret_bool ?_, HB6.out⟩
    rw [← HB.out, ← HP.out]
    exact decide_eq_decide.2 ⟨fun h => tell_nought.2 ⟨rfl, of_decide_eq_true HA.out, of_decide_eq_true HN.out, h⟩, fun h => (tell_nought.1 h).2.2.2⟩

set_option maxHeartbeats 2000000 in
theorem ptr_16 (bl wl : Nat) (at_ n v an orr co le : Int) (mo : Bool) (nx : Int) (ol : Nat) (BA WA OA : Option Addr) (bc wc oc : Nat) (w : World) (fo : Bool) (b : Bool) (hw : WideT at_ n v an orr co le nx) (hb : decide (tellP 16 0 bl wl at_ n v an orr co le mo.toNat nx ol fo.toNat) = b) :
    Calls Try.prog 9 #[.agg #[.int .i64 16, .int .i64 0, .slice BA bl bc, .slice WA wl wc, .int .i64 at_, .int .i64 n, .int .u16 v, .int .u16 an, .int .u16 orr, .int .i64 co, .int .i64 le, .bool mo, .int .i64 nx, .slice OA ol oc]] w fun e w' => e = .returned (.bool b) ∧ Below w.heap.size w w' := by
  have HB := Lib.hid hb
  have HW := Lib.hid hw
  clear hb hw
  have HK : Hid (kKnown 16 = true) := rfl
  obtain ⟨ha, hHA⟩ : ∃ c, decide (0 ≤ at_ ∧ at_ ≤ 65535) = c := ⟨_, rfl⟩
  obtain ⟨hn, hHN⟩ : ∃ c, decide (rangT 16 bl wl n v co le nx fo.toNat) = c := ⟨_, rfl⟩
  obtain ⟨hp, hHP⟩ : ∃ c, decide (restT 16 bl wl at_ n v an orr co le mo.toNat nx ol) = c := ⟨_, rfl⟩
  have HA := Lib.hid hHA
  have HN := Lib.hid hHN
  have HP := Lib.hid hHP
  clear hHA hHN hHP
  cases ha
  case false =>
    go_enter Try.func9, Try.ntmps9
    go_wp2_with (first
      | (go_at_call 27; refine (pknown_lit 16 true _ HK.out).mono ?_; rintro e w' ⟨rfl, rfl⟩)
      | (go_at_call 28; (with_reducible refine (isword_lit at_ _ _ HA.out).mono ?_); rintro e w' ⟨rfl, rfl⟩))
    go_ret
    refine ⟨ret_bool ?_, (Below.refl _ _).alloc (Nat.le_refl _) _⟩
    rw [← HB.out]
    exact (decide_eq_false (fun h => absurd (tell_nought.1 h).2.1 (of_decide_eq_false HA.out))).symm
  case true =>
  cases hn
  case false =>
    go_enter Try.func9, Try.ntmps9
    go_wp2_with (first
      | (go_at_call 27; refine (pknown_lit 16 true _ HK.out).mono ?_; rintro e w' ⟨rfl, rfl⟩)
      | (go_at_call 28; (with_reducible refine (isword_lit at_ _ _ HA.out).mono ?_); rintro e w' ⟨rfl, rfl⟩)
      | (go_at_call 29
         refine (prang_16 0 bl wl at_ n v an orr co le mo nx ol BA WA OA bc wc oc _ fo false HN.out).mono ?_
         rintro e w4 ⟨rfl, hb4⟩
         have HB4 : Hid (Below w.heap.size w w4) := ((Below.refl _ _).alloc (Nat.le_refl _) _).trans (hb4.mono (by simp))
         clear hb4))
    go_ret
    refine ⟨ret_bool ?_, HB4.out⟩
    rw [← HB.out]
    exact (decide_eq_false (fun h => absurd (tell_nought.1 h).2.2.1 (of_decide_eq_false HN.out))).symm
  case true =>
    go_enter Try.func9, Try.ntmps9
    go_wp2_with (first
      | (go_at_call 27; refine (pknown_lit 16 true _ HK.out).mono ?_; rintro e w' ⟨rfl, rfl⟩)
      | (go_at_call 28; (with_reducible refine (isword_lit at_ _ _ HA.out).mono ?_); rintro e w' ⟨rfl, rfl⟩)
      | (go_at_call 29
         refine (prang_16 0 bl wl at_ n v an orr co le mo nx ol BA WA OA bc wc oc _ fo true HN.out).mono ?_
         rintro e w4 ⟨rfl, hb4⟩
         have HB4 : Hid (Below w.heap.size w w4) := ((Below.refl _ _).alloc (Nat.le_refl _) _).trans (hb4.mono (by simp))
         have hk4 : Below (w.heap.size + 1) (w.alloc (.cells #[.int .i64 16, .int .i64 0, .slice BA bl bc, .slice WA wl wc, .int .i64 at_, .int .i64 n, .int .u16 v, .int .u16 an, .int .u16 orr, .int .i64 co, .int .i64 le, .bool mo, .int .i64 nx, .slice OA ol oc] 28)) w4 := by
           rwa [show (w.alloc (.cells #[.int .i64 16, .int .i64 0, .slice BA bl bc, .slice WA wl wc, .int .i64 at_, .int .i64 n, .int .u16 v, .int .u16 an, .int .u16 orr, .int .i64 co, .int .i64 le, .bool mo, .int .i64 nx, .slice OA ol oc] 28)).heap.size = w.heap.size + 1 by simp] at hb4
         obtain ⟨hc0, hc1, hc2, hc3, hc4, hc5, hc6, hc7, hc8, hc9, hc10, hc11, hc12, hc13⟩ := cells14 (box14 _ _ _ _ _ _ _ _ _ _ _ _ _ _ _ w w4 hk4)
         clear hb4 hk4)
      | (go_at_call 31
         refine (prest_16 0 bl wl at_ n v an orr co le mo nx ol BA WA OA bc wc oc _).mono ?_
         rintro e w5 ⟨rfl, hb5⟩
         have HB5 : Hid (Below w.heap.size w w5) := HB4.out.trans (hb5.mono HB4.out.size)
         clear hb5)
      | (go_at_call 30
         refine (pbareT 16 0 bl wl 0 0 v an orr co le mo nx ol BA WA OA bc wc oc _ hp ⟨by omega, by omega, by omega, by omega, HW.out.v0, HW.out.v1, HW.out.d0, HW.out.d1, HW.out.o0, HW.out.o1, HW.out.c0, HW.out.c1, HW.out.l0, HW.out.l1, HW.out.x0, HW.out.x1⟩ (by rw [← HP.out]; exact decide_eq_decide.2 (by have t0 : false.toNat = 0 := rfl; unfold zeroT restT; omega))).mono ?_
         rintro e w6 ⟨rfl, hb6⟩
         have HB6 : Hid (Below w.heap.size w w6) := HB5.out.trans (hb6.mono HB5.out.size)
         clear hb6))
    go_ret
    refine ⟨ret_bool ?_, HB6.out⟩
    rw [← HB.out, ← HP.out]
    exact decide_eq_decide.2 ⟨fun h => tell_nought.2 ⟨rfl, of_decide_eq_true HA.out, of_decide_eq_true HN.out, h⟩, fun h => (tell_nought.1 h).2.2.2⟩

set_option maxHeartbeats 2000000 in
theorem ptr_22 (bl wl : Nat) (at_ n v an orr co le : Int) (mo : Bool) (nx : Int) (ol : Nat) (BA WA OA : Option Addr) (bc wc oc : Nat) (w : World) (fo : Bool) (b : Bool) (hw : WideT at_ n v an orr co le nx) (hb : decide (tellP 22 0 bl wl at_ n v an orr co le mo.toNat nx ol fo.toNat) = b) :
    Calls Try.prog 9 #[.agg #[.int .i64 22, .int .i64 0, .slice BA bl bc, .slice WA wl wc, .int .i64 at_, .int .i64 n, .int .u16 v, .int .u16 an, .int .u16 orr, .int .i64 co, .int .i64 le, .bool mo, .int .i64 nx, .slice OA ol oc]] w fun e w' => e = .returned (.bool b) ∧ Below w.heap.size w w' := by
  have HB := Lib.hid hb
  have HW := Lib.hid hw
  clear hb hw
  have HK : Hid (kKnown 22 = true) := rfl
  obtain ⟨ha, hHA⟩ : ∃ c, decide (0 ≤ at_ ∧ at_ ≤ 65535) = c := ⟨_, rfl⟩
  obtain ⟨hn, hHN⟩ : ∃ c, decide (rangT 22 bl wl n v co le nx fo.toNat) = c := ⟨_, rfl⟩
  obtain ⟨hp, hHP⟩ : ∃ c, decide (restT 22 bl wl at_ n v an orr co le mo.toNat nx ol) = c := ⟨_, rfl⟩
  have HA := Lib.hid hHA
  have HN := Lib.hid hHN
  have HP := Lib.hid hHP
  clear hHA hHN hHP
  cases ha
  case false =>
    go_enter Try.func9, Try.ntmps9
    go_wp2_with (first
      | (go_at_call 27; refine (pknown_lit 22 true _ HK.out).mono ?_; rintro e w' ⟨rfl, rfl⟩)
      | (go_at_call 28; (with_reducible refine (isword_lit at_ _ _ HA.out).mono ?_); rintro e w' ⟨rfl, rfl⟩))
    go_ret
    refine ⟨ret_bool ?_, (Below.refl _ _).alloc (Nat.le_refl _) _⟩
    rw [← HB.out]
    exact (decide_eq_false (fun h => absurd (tell_nought.1 h).2.1 (of_decide_eq_false HA.out))).symm
  case true =>
  cases hn
  case false =>
    go_enter Try.func9, Try.ntmps9
    go_wp2_with (first
      | (go_at_call 27; refine (pknown_lit 22 true _ HK.out).mono ?_; rintro e w' ⟨rfl, rfl⟩)
      | (go_at_call 28; (with_reducible refine (isword_lit at_ _ _ HA.out).mono ?_); rintro e w' ⟨rfl, rfl⟩)
      | (go_at_call 29
         refine (prang_22 0 bl wl at_ n v an orr co le mo nx ol BA WA OA bc wc oc _ fo false HN.out).mono ?_
         rintro e w4 ⟨rfl, hb4⟩
         have HB4 : Hid (Below w.heap.size w w4) := ((Below.refl _ _).alloc (Nat.le_refl _) _).trans (hb4.mono (by simp))
         clear hb4))
    go_ret
    refine ⟨ret_bool ?_, HB4.out⟩
    rw [← HB.out]
    exact (decide_eq_false (fun h => absurd (tell_nought.1 h).2.2.1 (of_decide_eq_false HN.out))).symm
  case true =>
    go_enter Try.func9, Try.ntmps9
    go_wp2_with (first
      | (go_at_call 27; refine (pknown_lit 22 true _ HK.out).mono ?_; rintro e w' ⟨rfl, rfl⟩)
      | (go_at_call 28; (with_reducible refine (isword_lit at_ _ _ HA.out).mono ?_); rintro e w' ⟨rfl, rfl⟩)
      | (go_at_call 29
         refine (prang_22 0 bl wl at_ n v an orr co le mo nx ol BA WA OA bc wc oc _ fo true HN.out).mono ?_
         rintro e w4 ⟨rfl, hb4⟩
         have HB4 : Hid (Below w.heap.size w w4) := ((Below.refl _ _).alloc (Nat.le_refl _) _).trans (hb4.mono (by simp))
         have hk4 : Below (w.heap.size + 1) (w.alloc (.cells #[.int .i64 22, .int .i64 0, .slice BA bl bc, .slice WA wl wc, .int .i64 at_, .int .i64 n, .int .u16 v, .int .u16 an, .int .u16 orr, .int .i64 co, .int .i64 le, .bool mo, .int .i64 nx, .slice OA ol oc] 28)) w4 := by
           rwa [show (w.alloc (.cells #[.int .i64 22, .int .i64 0, .slice BA bl bc, .slice WA wl wc, .int .i64 at_, .int .i64 n, .int .u16 v, .int .u16 an, .int .u16 orr, .int .i64 co, .int .i64 le, .bool mo, .int .i64 nx, .slice OA ol oc] 28)).heap.size = w.heap.size + 1 by simp] at hb4
         obtain ⟨hc0, hc1, hc2, hc3, hc4, hc5, hc6, hc7, hc8, hc9, hc10, hc11, hc12, hc13⟩ := cells14 (box14 _ _ _ _ _ _ _ _ _ _ _ _ _ _ _ w w4 hk4)
         clear hb4 hk4)
      | (go_at_call 31
         refine (prest_22 0 bl wl at_ n v an orr co le mo nx ol BA WA OA bc wc oc _).mono ?_
         rintro e w5 ⟨rfl, hb5⟩
         have HB5 : Hid (Below w.heap.size w w5) := HB4.out.trans (hb5.mono HB4.out.size)
         clear hb5)
      | (go_at_call 30
         refine (pbareT 22 0 bl wl 0 n v 0 0 co le mo nx ol BA WA OA bc wc oc _ hp ⟨by omega, by omega, HW.out.n0, HW.out.n1, HW.out.v0, HW.out.v1, by omega, by omega, by omega, by omega, HW.out.c0, HW.out.c1, HW.out.l0, HW.out.l1, HW.out.x0, HW.out.x1⟩ (by rw [← HP.out]; exact decide_eq_decide.2 (by have t0 : false.toNat = 0 := rfl; unfold zeroT restT; omega))).mono ?_
         rintro e w6 ⟨rfl, hb6⟩
         have HB6 : Hid (Below w.heap.size w w6) := HB5.out.trans (hb6.mono HB5.out.size)
         clear hb6))
    go_ret
    refine ⟨ret_bool ?_, HB6.out⟩
    rw [← HB.out, ← HP.out]
    exact decide_eq_decide.2 ⟨fun h => tell_nought.2 ⟨rfl, of_decide_eq_true HA.out, of_decide_eq_true HN.out, h⟩, fun h => (tell_nought.1 h).2.2.2⟩

set_option maxHeartbeats 2000000 in
theorem ptr_23 (bl wl : Nat) (at_ n v an orr co le : Int) (mo : Bool) (nx : Int) (ol : Nat) (BA WA OA : Option Addr) (bc wc oc : Nat) (w : World) (fo : Bool) (b : Bool) (hw : WideT at_ n v an orr co le nx) (hb : decide (tellP 23 0 bl wl at_ n v an orr co le mo.toNat nx ol fo.toNat) = b) :
    Calls Try.prog 9 #[.agg #[.int .i64 23, .int .i64 0, .slice BA bl bc, .slice WA wl wc, .int .i64 at_, .int .i64 n, .int .u16 v, .int .u16 an, .int .u16 orr, .int .i64 co, .int .i64 le, .bool mo, .int .i64 nx, .slice OA ol oc]] w fun e w' => e = .returned (.bool b) ∧ Below w.heap.size w w' := by
  have HB := Lib.hid hb
  have HW := Lib.hid hw
  clear hb hw
  have HK : Hid (kKnown 23 = true) := rfl
  obtain ⟨ha, hHA⟩ : ∃ c, decide (0 ≤ at_ ∧ at_ ≤ 65535) = c := ⟨_, rfl⟩
  obtain ⟨hn, hHN⟩ : ∃ c, decide (rangT 23 bl wl n v co le nx fo.toNat) = c := ⟨_, rfl⟩
  obtain ⟨hp, hHP⟩ : ∃ c, decide (restT 23 bl wl at_ n v an orr co le mo.toNat nx ol) = c := ⟨_, rfl⟩
  have HA := Lib.hid hHA
  have HN := Lib.hid hHN
  have HP := Lib.hid hHP
  clear hHA hHN hHP
  cases ha
  case false =>
    go_enter Try.func9, Try.ntmps9
    go_wp2_with (first
      | (go_at_call 27; refine (pknown_lit 23 true _ HK.out).mono ?_; rintro e w' ⟨rfl, rfl⟩)
      | (go_at_call 28; (with_reducible refine (isword_lit at_ _ _ HA.out).mono ?_); rintro e w' ⟨rfl, rfl⟩))
    go_ret
    refine ⟨ret_bool ?_, (Below.refl _ _).alloc (Nat.le_refl _) _⟩
    rw [← HB.out]
    exact (decide_eq_false (fun h => absurd (tell_nought.1 h).2.1 (of_decide_eq_false HA.out))).symm
  case true =>
  cases hn
  case false =>
    go_enter Try.func9, Try.ntmps9
    go_wp2_with (first
      | (go_at_call 27; refine (pknown_lit 23 true _ HK.out).mono ?_; rintro e w' ⟨rfl, rfl⟩)
      | (go_at_call 28; (with_reducible refine (isword_lit at_ _ _ HA.out).mono ?_); rintro e w' ⟨rfl, rfl⟩)
      | (go_at_call 29
         refine (prang_23 0 bl wl at_ n v an orr co le mo nx ol BA WA OA bc wc oc _ fo false HN.out).mono ?_
         rintro e w4 ⟨rfl, hb4⟩
         have HB4 : Hid (Below w.heap.size w w4) := ((Below.refl _ _).alloc (Nat.le_refl _) _).trans (hb4.mono (by simp))
         clear hb4))
    go_ret
    refine ⟨ret_bool ?_, HB4.out⟩
    rw [← HB.out]
    exact (decide_eq_false (fun h => absurd (tell_nought.1 h).2.2.1 (of_decide_eq_false HN.out))).symm
  case true =>
    go_enter Try.func9, Try.ntmps9
    go_wp2_with (first
      | (go_at_call 27; refine (pknown_lit 23 true _ HK.out).mono ?_; rintro e w' ⟨rfl, rfl⟩)
      | (go_at_call 28; (with_reducible refine (isword_lit at_ _ _ HA.out).mono ?_); rintro e w' ⟨rfl, rfl⟩)
      | (go_at_call 29
         refine (prang_23 0 bl wl at_ n v an orr co le mo nx ol BA WA OA bc wc oc _ fo true HN.out).mono ?_
         rintro e w4 ⟨rfl, hb4⟩
         have HB4 : Hid (Below w.heap.size w w4) := ((Below.refl _ _).alloc (Nat.le_refl _) _).trans (hb4.mono (by simp))
         have hk4 : Below (w.heap.size + 1) (w.alloc (.cells #[.int .i64 23, .int .i64 0, .slice BA bl bc, .slice WA wl wc, .int .i64 at_, .int .i64 n, .int .u16 v, .int .u16 an, .int .u16 orr, .int .i64 co, .int .i64 le, .bool mo, .int .i64 nx, .slice OA ol oc] 28)) w4 := by
           rwa [show (w.alloc (.cells #[.int .i64 23, .int .i64 0, .slice BA bl bc, .slice WA wl wc, .int .i64 at_, .int .i64 n, .int .u16 v, .int .u16 an, .int .u16 orr, .int .i64 co, .int .i64 le, .bool mo, .int .i64 nx, .slice OA ol oc] 28)).heap.size = w.heap.size + 1 by simp] at hb4
         obtain ⟨hc0, hc1, hc2, hc3, hc4, hc5, hc6, hc7, hc8, hc9, hc10, hc11, hc12, hc13⟩ := cells14 (box14 _ _ _ _ _ _ _ _ _ _ _ _ _ _ _ w w4 hk4)
         clear hb4 hk4)
      | (go_at_call 31
         refine (prest_23 0 bl wl at_ n v an orr co le mo nx ol BA WA OA bc wc oc _).mono ?_
         rintro e w5 ⟨rfl, hb5⟩
         have HB5 : Hid (Below w.heap.size w w5) := HB4.out.trans (hb5.mono HB4.out.size)
         clear hb5)
      | (go_at_call 30
         refine (pbareT 23 0 bl 0 at_ n v an orr co le mo nx ol BA none OA bc 0 oc _ hp ⟨HW.out.a0, HW.out.a1, HW.out.n0, HW.out.n1, HW.out.v0, HW.out.v1, HW.out.d0, HW.out.d1, HW.out.o0, HW.out.o1, HW.out.c0, HW.out.c1, HW.out.l0, HW.out.l1, HW.out.x0, HW.out.x1⟩ (by rw [← HP.out]; exact decide_eq_decide.2 (by have t0 : false.toNat = 0 := rfl; unfold zeroT restT; omega))).mono ?_
         rintro e w6 ⟨rfl, hb6⟩
         have HB6 : Hid (Below w.heap.size w w6) := HB5.out.trans (hb6.mono HB5.out.size)
         clear hb6))
    go_ret
    refine ⟨ret_bool ?_, HB6.out⟩
    rw [← HB.out, ← HP.out]
    exact decide_eq_decide.2 ⟨fun h => tell_nought.2 ⟨rfl, of_decide_eq_true HA.out, of_decide_eq_true HN.out, h⟩, fun h => (tell_nought.1 h).2.2.2⟩

set_option maxHeartbeats 2000000 in
theorem ptr_43 (bl wl : Nat) (at_ n v an orr co le : Int) (mo : Bool) (nx : Int) (ol : Nat) (BA WA OA : Option Addr) (bc wc oc : Nat) (w : World) (fo : Bool) (b : Bool) (hw : WideT at_ n v an orr co le nx) (hb : decide (tellP 43 0 bl wl at_ n v an orr co le mo.toNat nx ol fo.toNat) = b) (hf : Fits w OA ol oc fo) :
    Calls Try.prog 9 #[.agg #[.int .i64 43, .int .i64 0, .slice BA bl bc, .slice WA wl wc, .int .i64 at_, .int .i64 n, .int .u16 v, .int .u16 an, .int .u16 orr, .int .i64 co, .int .i64 le, .bool mo, .int .i64 nx, .slice OA ol oc]] w fun e w' => e = .returned (.bool b) ∧ Below w.heap.size w w' := by
  have HB := Lib.hid hb
  have HW := Lib.hid hw
  clear hb hw
  have HF := Lib.hid hf
  clear hf
  have HK : Hid (kKnown 43 = true) := rfl
  obtain ⟨ha, hHA⟩ : ∃ c, decide (0 ≤ at_ ∧ at_ ≤ 65535) = c := ⟨_, rfl⟩
  obtain ⟨hn, hHN⟩ : ∃ c, decide (rangT 43 bl wl n v co le nx fo.toNat) = c := ⟨_, rfl⟩
  obtain ⟨hp, hHP⟩ : ∃ c, decide (restT 43 bl wl at_ n v an orr co le mo.toNat nx ol) = c := ⟨_, rfl⟩
  have HA := Lib.hid hHA
  have HN := Lib.hid hHN
  have HP := Lib.hid hHP
  clear hHA hHN hHP
  cases ha
  case false =>
    go_enter Try.func9, Try.ntmps9
    go_wp2_with (first
      | (go_at_call 27; refine (pknown_lit 43 true _ HK.out).mono ?_; rintro e w' ⟨rfl, rfl⟩)
      | (go_at_call 28; (with_reducible refine (isword_lit at_ _ _ HA.out).mono ?_); rintro e w' ⟨rfl, rfl⟩))
    go_ret
    refine ⟨ret_bool ?_, (Below.refl _ _).alloc (Nat.le_refl _) _⟩
    rw [← HB.out]
    exact (decide_eq_false (fun h => absurd (tell_nought.1 h).2.1 (of_decide_eq_false HA.out))).symm
  case true =>
  cases hn
  case false =>
    go_enter Try.func9, Try.ntmps9
    go_wp2_with (first
      | (go_at_call 27; refine (pknown_lit 43 true _ HK.out).mono ?_; rintro e w' ⟨rfl, rfl⟩)
      | (go_at_call 28; (with_reducible refine (isword_lit at_ _ _ HA.out).mono ?_); rintro e w' ⟨rfl, rfl⟩)
      | (go_at_call 29
         refine (prang_43 0 bl wl at_ n v an orr co le mo nx ol BA WA OA bc wc oc _ fo false HN.out (HF.out.on ((Below.refl _ _).alloc (Nat.le_refl _) _))).mono ?_
         rintro e w4 ⟨rfl, hb4⟩
         have HB4 : Hid (Below w.heap.size w w4) := ((Below.refl _ _).alloc (Nat.le_refl _) _).trans (hb4.mono (by simp))
         clear hb4))
    go_ret
    refine ⟨ret_bool ?_, HB4.out⟩
    rw [← HB.out]
    exact (decide_eq_false (fun h => absurd (tell_nought.1 h).2.2.1 (of_decide_eq_false HN.out))).symm
  case true =>
    go_enter Try.func9, Try.ntmps9
    go_wp2_with (first
      | (go_at_call 27; refine (pknown_lit 43 true _ HK.out).mono ?_; rintro e w' ⟨rfl, rfl⟩)
      | (go_at_call 28; (with_reducible refine (isword_lit at_ _ _ HA.out).mono ?_); rintro e w' ⟨rfl, rfl⟩)
      | (go_at_call 29
         refine (prang_43 0 bl wl at_ n v an orr co le mo nx ol BA WA OA bc wc oc _ fo true HN.out (HF.out.on ((Below.refl _ _).alloc (Nat.le_refl _) _))).mono ?_
         rintro e w4 ⟨rfl, hb4⟩
         have HB4 : Hid (Below w.heap.size w w4) := ((Below.refl _ _).alloc (Nat.le_refl _) _).trans (hb4.mono (by simp))
         have hk4 : Below (w.heap.size + 1) (w.alloc (.cells #[.int .i64 43, .int .i64 0, .slice BA bl bc, .slice WA wl wc, .int .i64 at_, .int .i64 n, .int .u16 v, .int .u16 an, .int .u16 orr, .int .i64 co, .int .i64 le, .bool mo, .int .i64 nx, .slice OA ol oc] 28)) w4 := by
           rwa [show (w.alloc (.cells #[.int .i64 43, .int .i64 0, .slice BA bl bc, .slice WA wl wc, .int .i64 at_, .int .i64 n, .int .u16 v, .int .u16 an, .int .u16 orr, .int .i64 co, .int .i64 le, .bool mo, .int .i64 nx, .slice OA ol oc] 28)).heap.size = w.heap.size + 1 by simp] at hb4
         obtain ⟨hc0, hc1, hc2, hc3, hc4, hc5, hc6, hc7, hc8, hc9, hc10, hc11, hc12, hc13⟩ := cells14 (box14 _ _ _ _ _ _ _ _ _ _ _ _ _ _ _ w w4 hk4)
         clear hb4 hk4)
      | (go_at_call 31
         refine (prest_43 0 bl wl at_ n v an orr co le mo nx ol BA WA OA bc wc oc _).mono ?_
         rintro e w5 ⟨rfl, hb5⟩
         have HB5 : Hid (Below w.heap.size w w5) := HB4.out.trans (hb5.mono HB4.out.size)
         clear hb5)
      | (go_at_call 30
         refine (pbareT 43 0 bl wl at_ n v an orr 0 0 false 0 0 BA WA none bc wc 0 _ hp ⟨HW.out.a0, HW.out.a1, HW.out.n0, HW.out.n1, HW.out.v0, HW.out.v1, HW.out.d0, HW.out.d1, HW.out.o0, HW.out.o1, by omega, by omega, by omega, by omega, by omega, by omega⟩ (by rw [← HP.out]; exact decide_eq_decide.2 (by have t0 : false.toNat = 0 := rfl; unfold zeroT restT; omega))).mono ?_
         rintro e w6 ⟨rfl, hb6⟩
         have HB6 : Hid (Below w.heap.size w w6) := HB5.out.trans (hb6.mono HB5.out.size)
         clear hb6))
    go_ret
    refine ⟨ret_bool ?_, HB6.out⟩
    rw [← HB.out, ← HP.out]
    exact decide_eq_decide.2 ⟨fun h => tell_nought.2 ⟨rfl, of_decide_eq_true HA.out, of_decide_eq_true HN.out, h⟩, fun h => (tell_nought.1 h).2.2.2⟩

/-- Right of any reply. -/
theorem ptr_any (fn ex : Int) (bl wl : Nat) (at_ n v an orr co le : Int) (mo : Bool) (nx : Int) (ol : Nat) (BA WA OA : Option Addr) (bc wc oc : Nat) (w : World) (fo : Bool) (b : Bool) (hw : WideT at_ n v an orr co le nx) (hf : Fits w OA ol oc fo) (hb : decide (tellP fn ex bl wl at_ n v an orr co le mo.toNat nx ol fo.toNat) = b) :
    Calls Try.prog 9 #[.agg #[.int .i64 fn, .int .i64 ex, .slice BA bl bc, .slice WA wl wc, .int .i64 at_, .int .i64 n, .int .u16 v, .int .u16 an, .int .u16 orr, .int .i64 co, .int .i64 le, .bool mo, .int .i64 nx, .slice OA ol oc]] w fun e w' => e = .returned (.bool b) ∧ Below w.heap.size w w' := by
  by_cases hx : ex = 0
  · subst hx
    rcases kinds fn with rfl | rfl | rfl | rfl | rfl | rfl | rfl | rfl | rfl | rfl | rfl | h
    · exact ptr_1 bl wl at_ n v an orr co le mo nx ol BA WA OA bc wc oc w fo b hw hb
    · exact ptr_2 bl wl at_ n v an orr co le mo nx ol BA WA OA bc wc oc w fo b hw hb
    · exact ptr_3 bl wl at_ n v an orr co le mo nx ol BA WA OA bc wc oc w fo b hw hb
    · exact ptr_4 bl wl at_ n v an orr co le mo nx ol BA WA OA bc wc oc w fo b hw hb
    · exact ptr_5 bl wl at_ n v an orr co le mo nx ol BA WA OA bc wc oc w fo b hw hb
    · exact ptr_6 bl wl at_ n v an orr co le mo nx ol BA WA OA bc wc oc w fo b hw hb
    · exact ptr_15 bl wl at_ n v an orr co le mo nx ol BA WA OA bc wc oc w fo b hw hb
    · exact ptr_16 bl wl at_ n v an orr co le mo nx ol BA WA OA bc wc oc w fo b hw hb
    · exact ptr_22 bl wl at_ n v an orr co le mo nx ol BA WA OA bc wc oc w fo b hw hb
    · exact ptr_23 bl wl at_ n v an orr co le mo nx ol BA WA OA bc wc oc w fo b hw hb
    · exact ptr_43 bl wl at_ n v an orr co le mo nx ol BA WA OA bc wc oc w fo b hw hb hf
    · rw [← hb, decide_eq_false (fun hr => by have := (tell_nought.1 hr).1; rw [h.known] at this; cases this)]
      exact ptr_unknown fn bl wl at_ n v an orr co le mo nx ol BA WA OA bc wc oc w h.known
  · exact ptr_exc fn ex bl wl at_ n v an orr co le mo nx ol BA WA OA bc wc oc w fo b hw hx hb

end Go.Proofs.Ytielfekkonflfaa

/- Package tell: Right. -/
import Derived.Test.YtielfekkonflfaaPTell
namespace Go.Proofs.Ytielfekkonflfaa
open Go.ChangeShapes Go.WideShapes Go.ChangeAt Go.RowKit
set_option linter.unusedVariables false
set_option linter.unusedSimpArgs false

theorem tell_nought {fn : Int} {bl wl : Nat} {at_ n v an orr co le : Int} {m : Nat} {nx : Int} {ol fo : Nat} : tellP fn 0 bl wl at_ n v an orr co le m nx ol fo ↔ kKnown fn = true ∧ (0 ≤ at_ ∧ at_ ≤ 65535) ∧ rangT fn bl wl n v co le nx fo ∧ restT fn bl wl at_ n v an orr co le m nx ol :=
  ⟨fun h => h.elim (fun h => h.2) (fun h => absurd h.1 (by omega)), fun h => .inl ⟨rfl, h⟩⟩
theorem tell_exc {fn ex : Int} {bl wl : Nat} {at_ n v an orr co le : Int} {m : Nat} {nx : Int} {ol fo : Nat} (hx : ex ≠ 0) : tellP fn ex bl wl at_ n v an orr co le m nx ol fo ↔ (ex = 1 ∨ ex = 2 ∨ ex = 3 ∨ ex = 4 ∨ ex = 6) ∧ (0 ≤ fn ∧ fn ≤ 255) ∧ zeroT bl wl at_ n v an orr co le m nx ol :=
  ⟨fun h => h.elim (fun h => absurd h.1 hx) id, .inr⟩

theorem ptr_x1 (fn : Int) (bl wl : Nat) (at_ n v an orr co le : Int) (mo : Bool) (nx : Int) (ol : Nat) (BA WA OA : Option Addr) (bc wc oc : Nat) (w : World) (fo : Bool) (b : Bool) (hw : WideT at_ n v an orr co le nx) (hb : decide (tellP fn 1 bl wl at_ n v an orr co le mo.toNat nx ol fo.toNat) = b) :
    Calls Try.prog 9 #[.agg #[.int .i64 fn, .int .i64 1, .slice BA bl bc, .slice WA wl wc, .int .i64 at_, .int .i64 n, .int .u16 v, .int .u16 an, .int .u16 orr, .int .i64 co, .int .i64 le, .bool mo, .int .i64 nx, .slice OA ol oc]] w fun e w' => e = .returned (.bool b) ∧ Below w.heap.size w w' := by
  have HB := Lib.hid hb
  have HW := Lib.hid hw
  clear hb hw
  obtain ⟨ha, hHA⟩ : ∃ c, decide (0 ≤ fn ∧ fn ≤ 255) = c := ⟨_, rfl⟩
  obtain ⟨hp, hHP⟩ : ∃ c, decide (zeroT bl wl at_ n v an orr co le mo.toNat nx ol) = c := ⟨_, rfl⟩
  have HA := Lib.hid hHA
  have HP := Lib.hid hHP
  clear hHA hHP
  cases ha
  case false =>
    go_enter Try.func9, Try.ntmps9
    go_wp2_with (go_at_call 32; (with_reducible refine (isbyte_lit fn _ _ HA.out).mono ?_); rintro e w' ⟨rfl, rfl⟩)
    go_ret
    refine ⟨ret_bool ?_, (Below.refl _ _).alloc (Nat.le_refl _) _⟩
    rw [← HB.out]
    exact (decide_eq_false (fun h => absurd ((tell_exc (by omega)).1 h).2.1 (of_decide_eq_false HA.out))).symm
  case true =>
    go_enter Try.func9, Try.ntmps9
    go_wp2_with (first
      | (go_at_call 32; (with_reducible refine (isbyte_lit fn _ _ HA.out).mono ?_); rintro e w' ⟨rfl, rfl⟩)
      | (go_at_call 30
         refine (pbareT fn 1 bl wl at_ n v an orr co le mo nx ol BA WA OA bc wc oc _ hp HW.out HP.out).mono ?_
         rintro e w6 ⟨rfl, hb6⟩
         have HB6 : Hid (Below w.heap.size w w6) := ((Below.refl _ _).alloc (Nat.le_refl _) _).trans (hb6.mono (by simp))
         clear hb6))
    go_ret
    refine ⟨ret_bool ?_, HB6.out⟩
    rw [← HB.out, ← HP.out]
    exact decide_eq_decide.2 ⟨fun h => (tell_exc (by omega)).2 ⟨by omega, of_decide_eq_true HA.out, h⟩, fun h => ((tell_exc (by omega)).1 h).2.2⟩

theorem ptr_x2 (fn : Int) (bl wl : Nat) (at_ n v an orr co le : Int) (mo : Bool) (nx : Int) (ol : Nat) (BA WA OA : Option Addr) (bc wc oc : Nat) (w : World) (fo : Bool) (b : Bool) (hw : WideT at_ n v an orr co le nx) (hb : decide (tellP fn 2 bl wl at_ n v an orr co le mo.toNat nx ol fo.toNat) = b) :
    Calls Try.prog 9 #[.agg #[.int .i64 fn, .int .i64 2, .slice BA bl bc, .slice WA wl wc, .int .i64 at_, .int .i64 n, .int .u16 v, .int .u16 an, .int .u16 orr, .int .i64 co, .int .i64 le, .bool mo, .int .i64 nx, .slice OA ol oc]] w fun e w' => e = .returned (.bool b) ∧ Below w.heap.size w w' := by
  have HB := Lib.hid hb
  have HW := Lib.hid hw
  clear hb hw
  obtain ⟨ha, hHA⟩ : ∃ c, decide (0 ≤ fn ∧ fn ≤ 255) = c := ⟨_, rfl⟩
  obtain ⟨hp, hHP⟩ : ∃ c, decide (zeroT bl wl at_ n v an orr co le mo.toNat nx ol) = c := ⟨_, rfl⟩
  have HA := Lib.hid hHA
  have HP := Lib.hid hHP
  clear hHA hHP
  cases ha
  case false =>
    go_enter Try.func9, Try.ntmps9
    go_wp2_with (go_at_call 32; (with_reducible refine (isbyte_lit fn _ _ HA.out).mono ?_); rintro e w' ⟨rfl, rfl⟩)
    go_ret
    refine ⟨ret_bool ?_, (Below.refl _ _).alloc (Nat.le_refl _) _⟩
    rw [← HB.out]
    exact (decide_eq_false (fun h => absurd ((tell_exc (by omega)).1 h).2.1 (of_decide_eq_false HA.out))).symm
  case true =>
    go_enter Try.func9, Try.ntmps9
    go_wp2_with (first
      | (go_at_call 32; (with_reducible refine (isbyte_lit fn _ _ HA.out).mono ?_); rintro e w' ⟨rfl, rfl⟩)
      | (go_at_call 30
         refine (pbareT fn 2 bl wl at_ n v an orr co le mo nx ol BA WA OA bc wc oc _ hp HW.out HP.out).mono ?_
         rintro e w6 ⟨rfl, hb6⟩
         have HB6 : Hid (Below w.heap.size w w6) := ((Below.refl _ _).alloc (Nat.le_refl _) _).trans (hb6.mono (by simp))
         clear hb6))
    go_ret
    refine ⟨ret_bool ?_, HB6.out⟩
    rw [← HB.out, ← HP.out]
    exact decide_eq_decide.2 ⟨fun h => (tell_exc (by omega)).2 ⟨by omega, of_decide_eq_true HA.out, h⟩, fun h => ((tell_exc (by omega)).1 h).2.2⟩

theorem ptr_x3 (fn : Int) (bl wl : Nat) (at_ n v an orr co le : Int) (mo : Bool) (nx : Int) (ol : Nat) (BA WA OA : Option Addr) (bc wc oc : Nat) (w : World) (fo : Bool) (b : Bool) (hw : WideT at_ n v an orr co le nx) (hb : decide (tellP fn 3 bl wl at_ n v an orr co le mo.toNat nx ol fo.toNat) = b) :
    Calls Try.prog 9 #[.agg #[.int .i64 fn, .int .i64 3, .slice BA bl bc, .slice WA wl wc, .int .i64 at_, .int .i64 n, .int .u16 v, .int .u16 an, .int .u16 orr, .int .i64 co, .int .i64 le, .bool mo, .int .i64 nx, .slice OA ol oc]] w fun e w' => e = .returned (.bool b) ∧ Below w.heap.size w w' := by
  have HB := Lib.hid hb
  have HW := Lib.hid hw
  clear hb hw
  obtain ⟨ha, hHA⟩ : ∃ c, decide (0 ≤ fn ∧ fn ≤ 255) = c := ⟨_, rfl⟩
  obtain ⟨hp, hHP⟩ : ∃ c, decide (zeroT bl wl at_ n v an orr co le mo.toNat nx ol) = c := ⟨_, rfl⟩
  have HA := Lib.hid hHA
  have HP := Lib.hid hHP
  clear hHA hHP
  cases ha
  case false =>
    go_enter Try.func9, Try.ntmps9
    go_wp2_with (go_at_call 32; (with_reducible refine (isbyte_lit fn _ _ HA.out).mono ?_); rintro e w' ⟨rfl, rfl⟩)
    go_ret
    refine ⟨ret_bool ?_, (Below.refl _ _).alloc (Nat.le_refl _) _⟩
    rw [← HB.out]
    exact (decide_eq_false (fun h => absurd ((tell_exc (by omega)).1 h).2.1 (of_decide_eq_false HA.out))).symm
  case true =>
    go_enter Try.func9, Try.ntmps9
    go_wp2_with (first
      | (go_at_call 32; (with_reducible refine (isbyte_lit fn _ _ HA.out).mono ?_); rintro e w' ⟨rfl, rfl⟩)
      | (go_at_call 30
         refine (pbareT fn 3 bl wl at_ n v an orr co le mo nx ol BA WA OA bc wc oc _ hp HW.out HP.out).mono ?_
         rintro e w6 ⟨rfl, hb6⟩
         have HB6 : Hid (Below w.heap.size w w6) := ((Below.refl _ _).alloc (Nat.le_refl _) _).trans (hb6.mono (by simp))
         clear hb6))
    go_ret
    refine ⟨ret_bool ?_, HB6.out⟩
    rw [← HB.out, ← HP.out]
    exact decide_eq_decide.2 ⟨fun h => (tell_exc (by omega)).2 ⟨by omega, of_decide_eq_true HA.out, h⟩, fun h => ((tell_exc (by omega)).1 h).2.2⟩

theorem ptr_x4 (fn : Int) (bl wl : Nat) (at_ n v an orr co le : Int) (mo : Bool) (nx : Int) (ol : Nat) (BA WA OA : Option Addr) (bc wc oc : Nat) (w : World) (fo : Bool) (b : Bool) (hw : WideT at_ n v an orr co le nx) (hb : decide (tellP fn 4 bl wl at_ n v an orr co le mo.toNat nx ol fo.toNat) = b) :
    Calls Try.prog 9 #[.agg #[.int .i64 fn, .int .i64 4, .slice BA bl bc, .slice WA wl wc, .int .i64 at_, .int .i64 n, .int .u16 v, .int .u16 an, .int .u16 orr, .int .i64 co, .int .i64 le, .bool mo, .int .i64 nx, .slice OA ol oc]] w fun e w' => e = .returned (.bool b) ∧ Below w.heap.size w w' := by
  have HB := Lib.hid hb
  have HW := Lib.hid hw
  clear hb hw
  obtain ⟨ha, hHA⟩ : ∃ c, decide (0 ≤ fn ∧ fn ≤ 255) = c := ⟨_, rfl⟩
  obtain ⟨hp, hHP⟩ : ∃ c, decide (zeroT bl wl at_ n v an orr co le mo.toNat nx ol) = c := ⟨_, rfl⟩
  have HA := Lib.hid hHA
  have HP := Lib.hid hHP
  clear hHA hHP
  cases ha
  case false =>
    go_enter Try.func9, Try.ntmps9
    go_wp2_with (go_at_call 32; (with_reducible refine (isbyte_lit fn _ _ HA.out).mono ?_); rintro e w' ⟨rfl, rfl⟩)
    go_ret
    refine ⟨ret_bool ?_, (Below.refl _ _).alloc (Nat.le_refl _) _⟩
    rw [← HB.out]
    exact (decide_eq_false (fun h => absurd ((tell_exc (by omega)).1 h).2.1 (of_decide_eq_false HA.out))).symm
  case true =>
    go_enter Try.func9, Try.ntmps9
    go_wp2_with (first
      | (go_at_call 32; (with_reducible refine (isbyte_lit fn _ _ HA.out).mono ?_); rintro e w' ⟨rfl, rfl⟩)
      | (go_at_call 30
         refine (pbareT fn 4 bl wl at_ n v an orr co le mo nx ol BA WA OA bc wc oc _ hp HW.out HP.out).mono ?_
         rintro e w6 ⟨rfl, hb6⟩
         have HB6 : Hid (Below w.heap.size w w6) := ((Below.refl _ _).alloc (Nat.le_refl _) _).trans (hb6.mono (by simp))
         clear hb6))
    go_ret
    refine ⟨ret_bool ?_, HB6.out⟩
    rw [← HB.out, ← HP.out]
    exact decide_eq_decide.2 ⟨fun h => (tell_exc (by omega)).2 ⟨by omega, of_decide_eq_true HA.out, h⟩, fun h => ((tell_exc (by omega)).1 h).2.2⟩

theorem ptr_x6 (fn : Int) (bl wl : Nat) (at_ n v an orr co le : Int) (mo : Bool) (nx : Int) (ol : Nat) (BA WA OA : Option Addr) (bc wc oc : Nat) (w : World) (fo : Bool) (b : Bool) (hw : WideT at_ n v an orr co le nx) (hb : decide (tellP fn 6 bl wl at_ n v an orr co le mo.toNat nx ol fo.toNat) = b) :
    Calls Try.prog 9 #[.agg #[.int .i64 fn, .int .i64 6, .slice BA bl bc, .slice WA wl wc, .int .i64 at_, .int .i64 n, .int .u16 v, .int .u16 an, .int .u16 orr, .int .i64 co, .int .i64 le, .bool mo, .int .i64 nx, .slice OA ol oc]] w fun e w' => e = .returned (.bool b) ∧ Below w.heap.size w w' := by
  have HB := Lib.hid hb
  have HW := Lib.hid hw
  clear hb hw
  obtain ⟨ha, hHA⟩ : ∃ c, decide (0 ≤ fn ∧ fn ≤ 255) = c := ⟨_, rfl⟩
  obtain ⟨hp, hHP⟩ : ∃ c, decide (zeroT bl wl at_ n v an orr co le mo.toNat nx ol) = c := ⟨_, rfl⟩
  have HA := Lib.hid hHA
  have HP := Lib.hid hHP
  clear hHA hHP
  cases ha
  case false =>
    go_enter Try.func9, Try.ntmps9
    go_wp2_with (go_at_call 32; (with_reducible refine (isbyte_lit fn _ _ HA.out).mono ?_); rintro e w' ⟨rfl, rfl⟩)
    go_ret
    refine ⟨ret_bool ?_, (Below.refl _ _).alloc (Nat.le_refl _) _⟩
    rw [← HB.out]
    exact (decide_eq_false (fun h => absurd ((tell_exc (by omega)).1 h).2.1 (of_decide_eq_false HA.out))).symm
  case true =>
    go_enter Try.func9, Try.ntmps9
    go_wp2_with (first
      | (go_at_call 32; (with_reducible refine (isbyte_lit fn _ _ HA.out).mono ?_); rintro e w' ⟨rfl, rfl⟩)
      | (go_at_call 30
         refine (pbareT fn 6 bl wl at_ n v an orr co le mo nx ol BA WA OA bc wc oc _ hp HW.out HP.out).mono ?_
         rintro e w6 ⟨rfl, hb6⟩
         have HB6 : Hid (Below w.heap.size w w6) := ((Below.refl _ _).alloc (Nat.le_refl _) _).trans (hb6.mono (by simp))
         clear hb6))
    go_ret
    refine ⟨ret_bool ?_, HB6.out⟩
    rw [← HB.out, ← HP.out]
    exact decide_eq_decide.2 ⟨fun h => (tell_exc (by omega)).2 ⟨by omega, of_decide_eq_true HA.out, h⟩, fun h => ((tell_exc (by omega)).1 h).2.2⟩

theorem ptr_bad (fn ex : Int) (bl wl : Nat) (at_ n v an orr co le : Int) (mo : Bool) (nx : Int) (ol : Nat) (BA WA OA : Option Addr) (bc wc oc : Nat) (w : World) (h0 : ¬ ex = 0) (h1 : ¬ ex = 1) (h2 : ¬ ex = 2) (h3 : ¬ ex = 3) (h4 : ¬ ex = 4) (h6 : ¬ ex = 6) :
    Calls Try.prog 9 #[.agg #[.int .i64 fn, .int .i64 ex, .slice BA bl bc, .slice WA wl wc, .int .i64 at_, .int .i64 n, .int .u16 v, .int .u16 an, .int .u16 orr, .int .i64 co, .int .i64 le, .bool mo, .int .i64 nx, .slice OA ol oc]] w fun e w' => e = .returned (.bool false) ∧ Below w.heap.size w w' := by
  go_enter Try.func9, Try.ntmps9
  go_wp2
  go_ret
  exact ⟨rfl, (Below.refl _ _).alloc (Nat.le_refl _) _⟩
theorem ptr_unknown (fn : Int) (bl wl : Nat) (at_ n v an orr co le : Int) (mo : Bool) (nx : Int) (ol : Nat) (BA WA OA : Option Addr) (bc wc oc : Nat) (w : World) (hk : kKnown fn = false) :
    Calls Try.prog 9 #[.agg #[.int .i64 fn, .int .i64 0, .slice BA bl bc, .slice WA wl wc, .int .i64 at_, .int .i64 n, .int .u16 v, .int .u16 an, .int .u16 orr, .int .i64 co, .int .i64 le, .bool mo, .int .i64 nx, .slice OA ol oc]] w fun e w' => e = .returned (.bool false) ∧ Below w.heap.size w w' := by
  have HK := Lib.hid hk
  clear hk
  go_enter Try.func9, Try.ntmps9
  go_wp2_with (go_at_call 27; refine (pknown_lit fn false _ HK.out).mono ?_; rintro e w' ⟨rfl, rfl⟩)
  go_ret
  exact ⟨rfl, (Below.refl _ _).alloc (Nat.le_refl _) _⟩
/-- Right of any reply whose exception is not 0. -/
theorem ptr_exc (fn ex : Int) (bl wl : Nat) (at_ n v an orr co le : Int) (mo : Bool) (nx : Int) (ol : Nat) (BA WA OA : Option Addr) (bc wc oc : Nat) (w : World) (fo : Bool) (b : Bool) (hw : WideT at_ n v an orr co le nx) (hx : ex ≠ 0) (hb : decide (tellP fn ex bl wl at_ n v an orr co le mo.toNat nx ol fo.toNat) = b) :
    Calls Try.prog 9 #[.agg #[.int .i64 fn, .int .i64 ex, .slice BA bl bc, .slice WA wl wc, .int .i64 at_, .int .i64 n, .int .u16 v, .int .u16 an, .int .u16 orr, .int .i64 co, .int .i64 le, .bool mo, .int .i64 nx, .slice OA ol oc]] w fun e w' => e = .returned (.bool b) ∧ Below w.heap.size w w' := by
  by_cases h1 : ex = 1
  · subst h1; exact ptr_x1 fn bl wl at_ n v an orr co le mo nx ol BA WA OA bc wc oc w fo b hw hb
  by_cases h2 : ex = 2
  · subst h2; exact ptr_x2 fn bl wl at_ n v an orr co le mo nx ol BA WA OA bc wc oc w fo b hw hb
  by_cases h3 : ex = 3
  · subst h3; exact ptr_x3 fn bl wl at_ n v an orr co le mo nx ol BA WA OA bc wc oc w fo b hw hb
  by_cases h4 : ex = 4
  · subst h4; exact ptr_x4 fn bl wl at_ n v an orr co le mo nx ol BA WA OA bc wc oc w fo b hw hb
  by_cases h6 : ex = 6
  · subst h6; exact ptr_x6 fn bl wl at_ n v an orr co le mo nx ol BA WA OA bc wc oc w fo b hw hb
  rw [← hb, decide_eq_false (fun h => by have := ((tell_exc hx).1 h).1; omega)]
  exact ptr_bad fn ex bl wl at_ n v an orr co le mo nx ol BA WA OA bc wc oc w hx h1 h2 h3 h4 h6

end Go.Proofs.Ytielfekkonflfaa

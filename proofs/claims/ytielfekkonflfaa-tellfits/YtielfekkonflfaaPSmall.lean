/- Package ask: the small functions: isWord, isByte, within, coil, pairAt. -/
import Derived.Test.YtielfekkonflfaaAskSpec
import Derived.Test.YtielfekkonflfaaHeads
namespace Go.Proofs.Ytielfekkonflfaa
open Go.ChangeShapes Go.WideShapes Go.ChangeAt Go.RowKit
set_option linter.unusedVariables false
set_option linter.unusedSimpArgs false

theorem isword_lit (n : Int) (b : Bool) (w : World) (h : decide (0 ≤ n ∧ n ≤ 65535) = b) :
    Calls Try.prog 28 #[.int .i64 n] w fun e w' => e = .returned (.bool b) ∧ w = w' := by
  have e1 : IntKind.u16.wrap n = n % 65536 := IntKind.wrap_u16 n
  have b1 : 0 ≤ n % 65536 := by omega
  have b2 : n % 65536 < 65536 := by omega
  have HB := Lib.hid h
  clear h
  go_enter Try.func28, Try.ntmps28
  go_wp2
  go_ret
  refine ⟨ret_bool ?_, rfl⟩
  rw [← HB.out, Bool.eq_iff_iff]
  simp only [decide_eq_true_eq, beq_iff_eq]
  omega
theorem isbyte_lit (n : Int) (b : Bool) (w : World) (h : decide (0 ≤ n ∧ n ≤ 255) = b) :
    Calls Try.prog 32 #[.int .i64 n] w fun e w' => e = .returned (.bool b) ∧ w = w' := by
  have b1 : 0 ≤ n % 256 := by omega
  have b2 : n % 256 < 256 := by omega
  have HB := Lib.hid h
  clear h
  go_enter Try.func32, Try.ntmps32
  go_wp2
  go_ret
  refine ⟨ret_bool ?_, rfl⟩
  rw [← HB.out, Bool.eq_iff_iff]
  simp only [decide_eq_true_eq, beq_iff_eq]
  omega
theorem pwithin_lit (n m : Int) (b : Bool) (w : World) (h : decide (1 ≤ n ∧ n ≤ m) = b) :
    Calls Try.prog 59 #[.int .i64 n, .int .i64 m] w fun e w' => e = .returned (.bool b) ∧ w = w' := by
  have HB := Lib.hid h
  clear h
  by_cases h1 : 1 ≤ n
  · go_enter Try.func59, Try.ntmps59
    go_wp2
    go_ret
    refine ⟨ret_bool ?_, rfl⟩
    rw [← HB.out, Bool.eq_iff_iff]
    simp only [decide_eq_true_eq]
    omega
  · have hd : decide (1 ≤ n) = false := by simpa using h1
    go_enter Try.func59, Try.ntmps59
    go_wp2
    go_ret
    refine ⟨ret_bool ?_, rfl⟩
    rw [← HB.out]
    simp only [Bool.false_eq, decide_eq_false_iff_not]
    omega
theorem coil_nought (w : World) : Calls Try.prog 55 #[.int .i64 0] w fun e w' => e = .returned (.tuple #[.int .u16 0, .bool true]) ∧ w = w' := by
  go_enter Try.func55, Try.ntmps55
  go_wp2
  go_ret2
  exact ⟨rfl, rfl⟩
theorem coil_one (w : World) : Calls Try.prog 55 #[.int .i64 65280] w fun e w' => e = .returned (.tuple #[.int .u16 1, .bool true]) ∧ w = w' := by
  go_enter Try.func55, Try.ntmps55
  go_wp2
  go_ret2
  exact ⟨rfl, rfl⟩
theorem coil_other (v : Int) (w : World) (h0 : ¬ v = 0) (h1 : ¬ v = 65280) : Calls Try.prog 55 #[.int .i64 v] w fun e w' => e = .returned (.tuple #[.int .u16 0, .bool false]) ∧ w = w' := by
  go_enter Try.func55, Try.ntmps55
  go_wp2
  go_ret2
  exact ⟨rfl, rfl⟩
theorem pknown_lit (fn : Int) (b : Bool) (w : World) (h : kKnown fn = b) :
    Calls Try.prog 27 #[.int .i64 fn] w fun e w' => e = .returned (.bool b) ∧ w = w' := by
  subst h
  exact kknown_any fn w
theorem pmost_lit (fn r q : Int) (w : World) (h1 : kMostR fn = r) (h2 : kMostW fn = q) :
    Calls Try.prog 58 #[.int .i64 fn] w fun e w' => e = .returned (.tuple #[.int .i64 r, .int .i64 q]) ∧ w = w' := by
  subst h1 h2
  exact kmost_any fn w
theorem ptable_lit (fn t : Int) (b : Bool) (w : World) (h1 : kTab fn = t) (h2 : kHas fn = b) :
    Calls Try.prog 57 #[.int .i64 fn] w fun e w' => e = .returned (.tuple #[.int .i64 t, .bool b]) ∧ w = w' := by
  subst h1 h2
  exact ktable_any fn w

end Go.Proofs.Ytielfekkonflfaa

/- Package tell: bare, rest, ranged. -/
import Derived.Test.YtielfekkonflfaaTSpec
namespace Go.Proofs.Ytielfekkonflfaa
open Go.ChangeShapes Go.WideShapes Go.ChangeAt Go.RowKit
set_option linter.unusedVariables false
set_option linter.unusedSimpArgs false

theorem pbareT (fn ex : Int) (bl wl : Nat) (at_ n v an orr co le : Int) (mo : Bool) (nx : Int) (ol : Nat) (BA WA OA : Option Addr) (bc wc oc : Nat) (w : World) (b : Bool) (hw : WideT at_ n v an orr co le nx) (hb : decide (zeroT bl wl at_ n v an orr co le mo.toNat nx ol) = b) :
    Calls Try.prog 30 #[.agg #[.int .i64 fn, .int .i64 ex, .slice BA bl bc, .slice WA wl wc, .int .i64 at_, .int .i64 n, .int .u16 v, .int .u16 an, .int .u16 orr, .int .i64 co, .int .i64 le, .bool mo, .int .i64 nx, .slice OA ol oc]] w fun e w' => e = .returned (.bool b) ∧ Below w.heap.size w w' := by
  have HB := Lib.hid hb
  have HW := Lib.hid hw
  clear hb hw
  have H5 := Lib.hid (or5 at_ n co le nx HW.out.a0 HW.out.a1 HW.out.n0 HW.out.n1 HW.out.c0 HW.out.c1 HW.out.l0 HW.out.l1 HW.out.x0 HW.out.x1)
  have H3 := Lib.hid (or3 v an orr HW.out.v0 HW.out.v1 HW.out.d0 HW.out.d1 HW.out.o0 HW.out.o1)
  cases mo
  all_goals
    go_enter Try.func30, Try.ntmps30
    go_wp2
    all_goals
      go_ret
      refine ⟨ret_bool ?_, (Below.refl _ _).alloc (Nat.le_refl _) _⟩
      rw [← HB.out]
      have t1 : true.toNat = 1 := rfl
      have t0 : false.toNat = 0 := rfl
      try have o1 := H5.out.1 (by assumption)
      try have o2 := mt H5.out.2 (by assumption)
      try have o3 := H3.out.1 (by assumption)
      try have o4 := mt H3.out.2 (by assumption)
      first
        | exact (decide_eq_false (by unfold zeroT; omega)).symm
        | exact (decide_eq_true (by unfold zeroT; omega)).symm
        | (rw [Bool.eq_iff_iff]; simp only [decide_eq_true_eq, beq_iff_eq, Bool.and_eq_true]; unfold zeroT; omega)

set_option maxHeartbeats 2000000 in
theorem prest_1 (ex : Int) (bl wl : Nat) (at_ n v an orr co le : Int) (mo : Bool) (nx : Int) (ol : Nat) (BA WA OA : Option Addr) (bc wc oc : Nat) (w : World) :
    Calls Try.prog 31 #[.agg #[.int .i64 1, .int .i64 ex, .slice BA bl bc, .slice WA wl wc, .int .i64 at_, .int .i64 n, .int .u16 v, .int .u16 an, .int .u16 orr, .int .i64 co, .int .i64 le, .bool mo, .int .i64 nx, .slice OA ol oc]] w fun e w' => e = .returned (.agg #[.int .i64 1, .int .i64 ex, .slice none 0 0, .slice WA wl wc, .int .i64 at_, .int .i64 n, .int .u16 v, .int .u16 an, .int .u16 orr, .int .i64 co, .int .i64 le, .bool mo, .int .i64 nx, .slice OA ol oc]) ∧ Below w.heap.size w w' := by
  go_enter Try.func31, Try.ntmps31
  go_wp2
  exact bodyPost_ret (v := .agg #[.int .i64 1, .int .i64 ex, .slice none 0 0, .slice WA wl wc, .int .i64 at_, .int .i64 n, .int .u16 v, .int .u16 an, .int .u16 orr, .int .i64 co, .int .i64 le, .bool mo, .int .i64 nx, .slice OA ol oc]) (by simp [results, Try.results31, go_sem]) rfl ⟨rfl, ((Below.refl _ _).alloc (Nat.le_refl _) _).alloc (by simp) _⟩

set_option maxHeartbeats 2000000 in
theorem prest_2 (ex : Int) (bl wl : Nat) (at_ n v an orr co le : Int) (mo : Bool) (nx : Int) (ol : Nat) (BA WA OA : Option Addr) (bc wc oc : Nat) (w : World) :
    Calls Try.prog 31 #[.agg #[.int .i64 2, .int .i64 ex, .slice BA bl bc, .slice WA wl wc, .int .i64 at_, .int .i64 n, .int .u16 v, .int .u16 an, .int .u16 orr, .int .i64 co, .int .i64 le, .bool mo, .int .i64 nx, .slice OA ol oc]] w fun e w' => e = .returned (.agg #[.int .i64 2, .int .i64 ex, .slice none 0 0, .slice WA wl wc, .int .i64 at_, .int .i64 n, .int .u16 v, .int .u16 an, .int .u16 orr, .int .i64 co, .int .i64 le, .bool mo, .int .i64 nx, .slice OA ol oc]) ∧ Below w.heap.size w w' := by
  go_enter Try.func31, Try.ntmps31
  go_wp2
  exact bodyPost_ret (v := .agg #[.int .i64 2, .int .i64 ex, .slice none 0 0, .slice WA wl wc, .int .i64 at_, .int .i64 n, .int .u16 v, .int .u16 an, .int .u16 orr, .int .i64 co, .int .i64 le, .bool mo, .int .i64 nx, .slice OA ol oc]) (by simp [results, Try.results31, go_sem]) rfl ⟨rfl, ((Below.refl _ _).alloc (Nat.le_refl _) _).alloc (by simp) _⟩

set_option maxHeartbeats 2000000 in
theorem prest_3 (ex : Int) (bl wl : Nat) (at_ n v an orr co le : Int) (mo : Bool) (nx : Int) (ol : Nat) (BA WA OA : Option Addr) (bc wc oc : Nat) (w : World) :
    Calls Try.prog 31 #[.agg #[.int .i64 3, .int .i64 ex, .slice BA bl bc, .slice WA wl wc, .int .i64 at_, .int .i64 n, .int .u16 v, .int .u16 an, .int .u16 orr, .int .i64 co, .int .i64 le, .bool mo, .int .i64 nx, .slice OA ol oc]] w fun e w' => e = .returned (.agg #[.int .i64 3, .int .i64 ex, .slice BA bl bc, .slice none 0 0, .int .i64 at_, .int .i64 n, .int .u16 v, .int .u16 an, .int .u16 orr, .int .i64 co, .int .i64 le, .bool mo, .int .i64 nx, .slice OA ol oc]) ∧ Below w.heap.size w w' := by
  go_enter Try.func31, Try.ntmps31
  go_wp2
  exact bodyPost_ret (v := .agg #[.int .i64 3, .int .i64 ex, .slice BA bl bc, .slice none 0 0, .int .i64 at_, .int .i64 n, .int .u16 v, .int .u16 an, .int .u16 orr, .int .i64 co, .int .i64 le, .bool mo, .int .i64 nx, .slice OA ol oc]) (by simp [results, Try.results31, go_sem]) rfl ⟨rfl, ((Below.refl _ _).alloc (Nat.le_refl _) _).alloc (by simp) _⟩

set_option maxHeartbeats 2000000 in
theorem prest_4 (ex : Int) (bl wl : Nat) (at_ n v an orr co le : Int) (mo : Bool) (nx : Int) (ol : Nat) (BA WA OA : Option Addr) (bc wc oc : Nat) (w : World) :
    Calls Try.prog 31 #[.agg #[.int .i64 4, .int .i64 ex, .slice BA bl bc, .slice WA wl wc, .int .i64 at_, .int .i64 n, .int .u16 v, .int .u16 an, .int .u16 orr, .int .i64 co, .int .i64 le, .bool mo, .int .i64 nx, .slice OA ol oc]] w fun e w' => e = .returned (.agg #[.int .i64 4, .int .i64 ex, .slice BA bl bc, .slice none 0 0, .int .i64 at_, .int .i64 n, .int .u16 v, .int .u16 an, .int .u16 orr, .int .i64 co, .int .i64 le, .bool mo, .int .i64 nx, .slice OA ol oc]) ∧ Below w.heap.size w w' := by
  go_enter Try.func31, Try.ntmps31
  go_wp2
  exact bodyPost_ret (v := .agg #[.int .i64 4, .int .i64 ex, .slice BA bl bc, .slice none 0 0, .int .i64 at_, .int .i64 n, .int .u16 v, .int .u16 an, .int .u16 orr, .int .i64 co, .int .i64 le, .bool mo, .int .i64 nx, .slice OA ol oc]) (by simp [results, Try.results31, go_sem]) rfl ⟨rfl, ((Below.refl _ _).alloc (Nat.le_refl _) _).alloc (by simp) _⟩

set_option maxHeartbeats 2000000 in
theorem prest_5 (ex : Int) (bl wl : Nat) (at_ n v an orr co le : Int) (mo : Bool) (nx : Int) (ol : Nat) (BA WA OA : Option Addr) (bc wc oc : Nat) (w : World) :
    Calls Try.prog 31 #[.agg #[.int .i64 5, .int .i64 ex, .slice BA bl bc, .slice WA wl wc, .int .i64 at_, .int .i64 n, .int .u16 v, .int .u16 an, .int .u16 orr, .int .i64 co, .int .i64 le, .bool mo, .int .i64 nx, .slice OA ol oc]] w fun e w' => e = .returned (.agg #[.int .i64 5, .int .i64 ex, .slice BA bl bc, .slice WA wl wc, .int .i64 0, .int .i64 n, .int .u16 0, .int .u16 an, .int .u16 orr, .int .i64 co, .int .i64 le, .bool mo, .int .i64 nx, .slice OA ol oc]) ∧ Below w.heap.size w w' := by
  go_enter Try.func31, Try.ntmps31
  go_wp2
  exact bodyPost_ret (v := .agg #[.int .i64 5, .int .i64 ex, .slice BA bl bc, .slice WA wl wc, .int .i64 0, .int .i64 n, .int .u16 0, .int .u16 an, .int .u16 orr, .int .i64 co, .int .i64 le, .bool mo, .int .i64 nx, .slice OA ol oc]) (by simp [results, Try.results31, go_sem]) rfl ⟨rfl, ((Below.refl _ _).alloc (Nat.le_refl _) _).alloc (by simp) _⟩

set_option maxHeartbeats 2000000 in
theorem prest_6 (ex : Int) (bl wl : Nat) (at_ n v an orr co le : Int) (mo : Bool) (nx : Int) (ol : Nat) (BA WA OA : Option Addr) (bc wc oc : Nat) (w : World) :
    Calls Try.prog 31 #[.agg #[.int .i64 6, .int .i64 ex, .slice BA bl bc, .slice WA wl wc, .int .i64 at_, .int .i64 n, .int .u16 v, .int .u16 an, .int .u16 orr, .int .i64 co, .int .i64 le, .bool mo, .int .i64 nx, .slice OA ol oc]] w fun e w' => e = .returned (.agg #[.int .i64 6, .int .i64 ex, .slice BA bl bc, .slice WA wl wc, .int .i64 0, .int .i64 n, .int .u16 0, .int .u16 an, .int .u16 orr, .int .i64 co, .int .i64 le, .bool mo, .int .i64 nx, .slice OA ol oc]) ∧ Below w.heap.size w w' := by
  go_enter Try.func31, Try.ntmps31
  go_wp2
  exact bodyPost_ret (v := .agg #[.int .i64 6, .int .i64 ex, .slice BA bl bc, .slice WA wl wc, .int .i64 0, .int .i64 n, .int .u16 0, .int .u16 an, .int .u16 orr, .int .i64 co, .int .i64 le, .bool mo, .int .i64 nx, .slice OA ol oc]) (by simp [results, Try.results31, go_sem]) rfl ⟨rfl, ((Below.refl _ _).alloc (Nat.le_refl _) _).alloc (by simp) _⟩

set_option maxHeartbeats 2000000 in
theorem prest_15 (ex : Int) (bl wl : Nat) (at_ n v an orr co le : Int) (mo : Bool) (nx : Int) (ol : Nat) (BA WA OA : Option Addr) (bc wc oc : Nat) (w : World) :
    Calls Try.prog 31 #[.agg #[.int .i64 15, .int .i64 ex, .slice BA bl bc, .slice WA wl wc, .int .i64 at_, .int .i64 n, .int .u16 v, .int .u16 an, .int .u16 orr, .int .i64 co, .int .i64 le, .bool mo, .int .i64 nx, .slice OA ol oc]] w fun e w' => e = .returned (.agg #[.int .i64 15, .int .i64 ex, .slice BA bl bc, .slice WA wl wc, .int .i64 0, .int .i64 0, .int .u16 v, .int .u16 an, .int .u16 orr, .int .i64 co, .int .i64 le, .bool mo, .int .i64 nx, .slice OA ol oc]) ∧ Below w.heap.size w w' := by
  go_enter Try.func31, Try.ntmps31
  go_wp2
  exact bodyPost_ret (v := .agg #[.int .i64 15, .int .i64 ex, .slice BA bl bc, .slice WA wl wc, .int .i64 0, .int .i64 0, .int .u16 v, .int .u16 an, .int .u16 orr, .int .i64 co, .int .i64 le, .bool mo, .int .i64 nx, .slice OA ol oc]) (by simp [results, Try.results31, go_sem]) rfl ⟨rfl, ((Below.refl _ _).alloc (Nat.le_refl _) _).alloc (by simp) _⟩

set_option maxHeartbeats 2000000 in
theorem prest_16 (ex : Int) (bl wl : Nat) (at_ n v an orr co le : Int) (mo : Bool) (nx : Int) (ol : Nat) (BA WA OA : Option Addr) (bc wc oc : Nat) (w : World) :
    Calls Try.prog 31 #[.agg #[.int .i64 16, .int .i64 ex, .slice BA bl bc, .slice WA wl wc, .int .i64 at_, .int .i64 n, .int .u16 v, .int .u16 an, .int .u16 orr, .int .i64 co, .int .i64 le, .bool mo, .int .i64 nx, .slice OA ol oc]] w fun e w' => e = .returned (.agg #[.int .i64 16, .int .i64 ex, .slice BA bl bc, .slice WA wl wc, .int .i64 0, .int .i64 0, .int .u16 v, .int .u16 an, .int .u16 orr, .int .i64 co, .int .i64 le, .bool mo, .int .i64 nx, .slice OA ol oc]) ∧ Below w.heap.size w w' := by
  go_enter Try.func31, Try.ntmps31
  go_wp2
  exact bodyPost_ret (v := .agg #[.int .i64 16, .int .i64 ex, .slice BA bl bc, .slice WA wl wc, .int .i64 0, .int .i64 0, .int .u16 v, .int .u16 an, .int .u16 orr, .int .i64 co, .int .i64 le, .bool mo, .int .i64 nx, .slice OA ol oc]) (by simp [results, Try.results31, go_sem]) rfl ⟨rfl, ((Below.refl _ _).alloc (Nat.le_refl _) _).alloc (by simp) _⟩

set_option maxHeartbeats 2000000 in
theorem prest_22 (ex : Int) (bl wl : Nat) (at_ n v an orr co le : Int) (mo : Bool) (nx : Int) (ol : Nat) (BA WA OA : Option Addr) (bc wc oc : Nat) (w : World) :
    Calls Try.prog 31 #[.agg #[.int .i64 22, .int .i64 ex, .slice BA bl bc, .slice WA wl wc, .int .i64 at_, .int .i64 n, .int .u16 v, .int .u16 an, .int .u16 orr, .int .i64 co, .int .i64 le, .bool mo, .int .i64 nx, .slice OA ol oc]] w fun e w' => e = .returned (.agg #[.int .i64 22, .int .i64 ex, .slice BA bl bc, .slice WA wl wc, .int .i64 0, .int .i64 n, .int .u16 v, .int .u16 0, .int .u16 0, .int .i64 co, .int .i64 le, .bool mo, .int .i64 nx, .slice OA ol oc]) ∧ Below w.heap.size w w' := by
  go_enter Try.func31, Try.ntmps31
  go_wp2
  exact bodyPost_ret (v := .agg #[.int .i64 22, .int .i64 ex, .slice BA bl bc, .slice WA wl wc, .int .i64 0, .int .i64 n, .int .u16 v, .int .u16 0, .int .u16 0, .int .i64 co, .int .i64 le, .bool mo, .int .i64 nx, .slice OA ol oc]) (by simp [results, Try.results31, go_sem]) rfl ⟨rfl, ((Below.refl _ _).alloc (Nat.le_refl _) _).alloc (by simp) _⟩

set_option maxHeartbeats 2000000 in
theorem prest_23 (ex : Int) (bl wl : Nat) (at_ n v an orr co le : Int) (mo : Bool) (nx : Int) (ol : Nat) (BA WA OA : Option Addr) (bc wc oc : Nat) (w : World) :
    Calls Try.prog 31 #[.agg #[.int .i64 23, .int .i64 ex, .slice BA bl bc, .slice WA wl wc, .int .i64 at_, .int .i64 n, .int .u16 v, .int .u16 an, .int .u16 orr, .int .i64 co, .int .i64 le, .bool mo, .int .i64 nx, .slice OA ol oc]] w fun e w' => e = .returned (.agg #[.int .i64 23, .int .i64 ex, .slice BA bl bc, .slice none 0 0, .int .i64 at_, .int .i64 n, .int .u16 v, .int .u16 an, .int .u16 orr, .int .i64 co, .int .i64 le, .bool mo, .int .i64 nx, .slice OA ol oc]) ∧ Below w.heap.size w w' := by
  go_enter Try.func31, Try.ntmps31
  go_wp2
  exact bodyPost_ret (v := .agg #[.int .i64 23, .int .i64 ex, .slice BA bl bc, .slice none 0 0, .int .i64 at_, .int .i64 n, .int .u16 v, .int .u16 an, .int .u16 orr, .int .i64 co, .int .i64 le, .bool mo, .int .i64 nx, .slice OA ol oc]) (by simp [results, Try.results31, go_sem]) rfl ⟨rfl, ((Below.refl _ _).alloc (Nat.le_refl _) _).alloc (by simp) _⟩

set_option maxHeartbeats 2000000 in
theorem prest_43 (ex : Int) (bl wl : Nat) (at_ n v an orr co le : Int) (mo : Bool) (nx : Int) (ol : Nat) (BA WA OA : Option Addr) (bc wc oc : Nat) (w : World) :
    Calls Try.prog 31 #[.agg #[.int .i64 43, .int .i64 ex, .slice BA bl bc, .slice WA wl wc, .int .i64 at_, .int .i64 n, .int .u16 v, .int .u16 an, .int .u16 orr, .int .i64 co, .int .i64 le, .bool mo, .int .i64 nx, .slice OA ol oc]] w fun e w' => e = .returned (.agg #[.int .i64 43, .int .i64 ex, .slice BA bl bc, .slice WA wl wc, .int .i64 at_, .int .i64 n, .int .u16 v, .int .u16 an, .int .u16 orr, .int .i64 0, .int .i64 0, .bool false, .int .i64 0, .slice none 0 0]) ∧ Below w.heap.size w w' := by
  go_enter Try.func31, Try.ntmps31
  go_wp2
  exact bodyPost_ret (v := .agg #[.int .i64 43, .int .i64 ex, .slice BA bl bc, .slice WA wl wc, .int .i64 at_, .int .i64 n, .int .u16 v, .int .u16 an, .int .u16 orr, .int .i64 0, .int .i64 0, .bool false, .int .i64 0, .slice none 0 0]) (by simp [results, Try.results31, go_sem]) rfl ⟨rfl, ((Below.refl _ _).alloc (Nat.le_refl _) _).alloc (by simp) _⟩

theorem prang_1 (ex : Int) (bl wl : Nat) (at_ n v an orr co le : Int) (mo : Bool) (nx : Int) (ol : Nat) (BA WA OA : Option Addr) (bc wc oc : Nat) (w : World) (fo : Bool) (b : Bool) (hb : decide (rangT 1 bl wl n v co le nx fo.toNat) = b) :
    Calls Try.prog 29 #[.agg #[.int .i64 1, .int .i64 ex, .slice BA bl bc, .slice WA wl wc, .int .i64 at_, .int .i64 n, .int .u16 v, .int .u16 an, .int .u16 orr, .int .i64 co, .int .i64 le, .bool mo, .int .i64 nx, .slice OA ol oc]] w fun e w' => e = .returned (.bool b) ∧ Below w.heap.size w w' := by
  have HB := Lib.hid hb
  clear hb
  have HM1 : Hid (kMostR 1 = 2000) := rfl
  have HM2 : Hid (kMostW 1 = 0) := rfl
  obtain ⟨hc, hHC⟩ : ∃ c, decide (1 ≤ (bl : Int) ∧ (bl : Int) ≤ 2000) = c := ⟨_, rfl⟩
  have HC := Lib.hid hHC
  clear hHC
  cases hc
  all_goals
    go_enter Try.func29, Try.ntmps29
    go_wp2_with (first
      | (go_at_call 58; refine (pmost_lit 1 2000 0 _ HM1.out HM2.out).mono ?_; rintro e w' ⟨rfl, rfl⟩)
      | (go_at_call 59; (with_reducible refine (pwithin_lit (bl : Int) 2000 _ _ HC.out).mono ?_); rintro e w' ⟨rfl, rfl⟩))
    all_goals
      go_ret
      refine ⟨ret_bool ?_, (Below.refl _ _).alloc (Nat.le_refl _) _⟩
      rw [← HB.out]
      have m1 := HM1.out
      have m2 := HM2.out
      have qhc := HC.out
      simp only [decide_eq_true_eq, decide_eq_false_iff_not] at qhc
      first
        | exact (decide_eq_false (by unfold rangT; omega)).symm
        | exact (decide_eq_true (by unfold rangT; omega)).symm
        | (rw [Bool.eq_iff_iff]; simp only [decide_eq_true_eq, beq_iff_eq, Bool.and_eq_true]; unfold rangT; omega)

theorem prang_2 (ex : Int) (bl wl : Nat) (at_ n v an orr co le : Int) (mo : Bool) (nx : Int) (ol : Nat) (BA WA OA : Option Addr) (bc wc oc : Nat) (w : World) (fo : Bool) (b : Bool) (hb : decide (rangT 2 bl wl n v co le nx fo.toNat) = b) :
    Calls Try.prog 29 #[.agg #[.int .i64 2, .int .i64 ex, .slice BA bl bc, .slice WA wl wc, .int .i64 at_, .int .i64 n, .int .u16 v, .int .u16 an, .int .u16 orr, .int .i64 co, .int .i64 le, .bool mo, .int .i64 nx, .slice OA ol oc]] w fun e w' => e = .returned (.bool b) ∧ Below w.heap.size w w' := by
  have HB := Lib.hid hb
  clear hb
  have HM1 : Hid (kMostR 2 = 2000) := rfl
  have HM2 : Hid (kMostW 2 = 0) := rfl
  obtain ⟨hc, hHC⟩ : ∃ c, decide (1 ≤ (bl : Int) ∧ (bl : Int) ≤ 2000) = c := ⟨_, rfl⟩
  have HC := Lib.hid hHC
  clear hHC
  cases hc
  all_goals
    go_enter Try.func29, Try.ntmps29
    go_wp2_with (first
      | (go_at_call 58; refine (pmost_lit 2 2000 0 _ HM1.out HM2.out).mono ?_; rintro e w' ⟨rfl, rfl⟩)
      | (go_at_call 59; (with_reducible refine (pwithin_lit (bl : Int) 2000 _ _ HC.out).mono ?_); rintro e w' ⟨rfl, rfl⟩))
    all_goals
      go_ret
      refine ⟨ret_bool ?_, (Below.refl _ _).alloc (Nat.le_refl _) _⟩
      rw [← HB.out]
      have m1 := HM1.out
      have m2 := HM2.out
      have qhc := HC.out
      simp only [decide_eq_true_eq, decide_eq_false_iff_not] at qhc
      first
        | exact (decide_eq_false (by unfold rangT; omega)).symm
        | exact (decide_eq_true (by unfold rangT; omega)).symm
        | (rw [Bool.eq_iff_iff]; simp only [decide_eq_true_eq, beq_iff_eq, Bool.and_eq_true]; unfold rangT; omega)

theorem prang_3 (ex : Int) (bl wl : Nat) (at_ n v an orr co le : Int) (mo : Bool) (nx : Int) (ol : Nat) (BA WA OA : Option Addr) (bc wc oc : Nat) (w : World) (fo : Bool) (b : Bool) (hb : decide (rangT 3 bl wl n v co le nx fo.toNat) = b) :
    Calls Try.prog 29 #[.agg #[.int .i64 3, .int .i64 ex, .slice BA bl bc, .slice WA wl wc, .int .i64 at_, .int .i64 n, .int .u16 v, .int .u16 an, .int .u16 orr, .int .i64 co, .int .i64 le, .bool mo, .int .i64 nx, .slice OA ol oc]] w fun e w' => e = .returned (.bool b) ∧ Below w.heap.size w w' := by
  have HB := Lib.hid hb
  clear hb
  have HM1 : Hid (kMostR 3 = 125) := rfl
  have HM2 : Hid (kMostW 3 = 0) := rfl
  obtain ⟨hc, hHC⟩ : ∃ c, decide (1 ≤ (wl : Int) ∧ (wl : Int) ≤ 125) = c := ⟨_, rfl⟩
  have HC := Lib.hid hHC
  clear hHC
  cases hc
  all_goals
    go_enter Try.func29, Try.ntmps29
    go_wp2_with (first
      | (go_at_call 58; refine (pmost_lit 3 125 0 _ HM1.out HM2.out).mono ?_; rintro e w' ⟨rfl, rfl⟩)
      | (go_at_call 59; (with_reducible refine (pwithin_lit (wl : Int) 125 _ _ HC.out).mono ?_); rintro e w' ⟨rfl, rfl⟩))
    all_goals
      go_ret
      refine ⟨ret_bool ?_, (Below.refl _ _).alloc (Nat.le_refl _) _⟩
      rw [← HB.out]
      have m1 := HM1.out
      have m2 := HM2.out
      have qhc := HC.out
      simp only [decide_eq_true_eq, decide_eq_false_iff_not] at qhc
      first
        | exact (decide_eq_false (by unfold rangT; omega)).symm
        | exact (decide_eq_true (by unfold rangT; omega)).symm
        | (rw [Bool.eq_iff_iff]; simp only [decide_eq_true_eq, beq_iff_eq, Bool.and_eq_true]; unfold rangT; omega)

theorem prang_4 (ex : Int) (bl wl : Nat) (at_ n v an orr co le : Int) (mo : Bool) (nx : Int) (ol : Nat) (BA WA OA : Option Addr) (bc wc oc : Nat) (w : World) (fo : Bool) (b : Bool) (hb : decide (rangT 4 bl wl n v co le nx fo.toNat) = b) :
    Calls Try.prog 29 #[.agg #[.int .i64 4, .int .i64 ex, .slice BA bl bc, .slice WA wl wc, .int .i64 at_, .int .i64 n, .int .u16 v, .int .u16 an, .int .u16 orr, .int .i64 co, .int .i64 le, .bool mo, .int .i64 nx, .slice OA ol oc]] w fun e w' => e = .returned (.bool b) ∧ Below w.heap.size w w' := by
  have HB := Lib.hid hb
  clear hb
  have HM1 : Hid (kMostR 4 = 125) := rfl
  have HM2 : Hid (kMostW 4 = 0) := rfl
  obtain ⟨hc, hHC⟩ : ∃ c, decide (1 ≤ (wl : Int) ∧ (wl : Int) ≤ 125) = c := ⟨_, rfl⟩
  have HC := Lib.hid hHC
  clear hHC
  cases hc
  all_goals
    go_enter Try.func29, Try.ntmps29
    go_wp2_with (first
      | (go_at_call 58; refine (pmost_lit 4 125 0 _ HM1.out HM2.out).mono ?_; rintro e w' ⟨rfl, rfl⟩)
      | (go_at_call 59; (with_reducible refine (pwithin_lit (wl : Int) 125 _ _ HC.out).mono ?_); rintro e w' ⟨rfl, rfl⟩))
    all_goals
      go_ret
      refine ⟨ret_bool ?_, (Below.refl _ _).alloc (Nat.le_refl _) _⟩
      rw [← HB.out]
      have m1 := HM1.out
      have m2 := HM2.out
      have qhc := HC.out
      simp only [decide_eq_true_eq, decide_eq_false_iff_not] at qhc
      first
        | exact (decide_eq_false (by unfold rangT; omega)).symm
        | exact (decide_eq_true (by unfold rangT; omega)).symm
        | (rw [Bool.eq_iff_iff]; simp only [decide_eq_true_eq, beq_iff_eq, Bool.and_eq_true]; unfold rangT; omega)

theorem prang_5 (ex : Int) (bl wl : Nat) (at_ n v an orr co le : Int) (mo : Bool) (nx : Int) (ol : Nat) (BA WA OA : Option Addr) (bc wc oc : Nat) (w : World) (fo : Bool) (b : Bool) (hb : decide (rangT 5 bl wl n v co le nx fo.toNat) = b) :
    Calls Try.prog 29 #[.agg #[.int .i64 5, .int .i64 ex, .slice BA bl bc, .slice WA wl wc, .int .i64 at_, .int .i64 n, .int .u16 v, .int .u16 an, .int .u16 orr, .int .i64 co, .int .i64 le, .bool mo, .int .i64 nx, .slice OA ol oc]] w fun e w' => e = .returned (.bool b) ∧ Below w.heap.size w w' := by
  have HB := Lib.hid hb
  clear hb
  have HM1 : Hid (kMostR 5 = 0) := rfl
  have HM2 : Hid (kMostW 5 = 1) := rfl
  go_enter Try.func29, Try.ntmps29
  go_wp2_with (first
    | (go_at_call 58; refine (pmost_lit 5 0 1 _ HM1.out HM2.out).mono ?_; rintro e w' ⟨rfl, rfl⟩))
  all_goals
    go_ret
    refine ⟨ret_bool ?_, (Below.refl _ _).alloc (Nat.le_refl _) _⟩
    rw [← HB.out]
    have m1 := HM1.out
    have m2 := HM2.out
    first
      | exact (decide_eq_false (by unfold rangT; omega)).symm
      | exact (decide_eq_true (by unfold rangT; omega)).symm
      | (rw [Bool.eq_iff_iff]; simp only [decide_eq_true_eq, beq_iff_eq, Bool.and_eq_true]; unfold rangT; omega)

theorem prang_6 (ex : Int) (bl wl : Nat) (at_ n v an orr co le : Int) (mo : Bool) (nx : Int) (ol : Nat) (BA WA OA : Option Addr) (bc wc oc : Nat) (w : World) (fo : Bool) (b : Bool) (hb : decide (rangT 6 bl wl n v co le nx fo.toNat) = b) :
    Calls Try.prog 29 #[.agg #[.int .i64 6, .int .i64 ex, .slice BA bl bc, .slice WA wl wc, .int .i64 at_, .int .i64 n, .int .u16 v, .int .u16 an, .int .u16 orr, .int .i64 co, .int .i64 le, .bool mo, .int .i64 nx, .slice OA ol oc]] w fun e w' => e = .returned (.bool b) ∧ Below w.heap.size w w' := by
  have HB := Lib.hid hb
  clear hb
  have HM1 : Hid (kMostR 6 = 0) := rfl
  have HM2 : Hid (kMostW 6 = 1) := rfl
  go_enter Try.func29, Try.ntmps29
  go_wp2_with (first
    | (go_at_call 58; refine (pmost_lit 6 0 1 _ HM1.out HM2.out).mono ?_; rintro e w' ⟨rfl, rfl⟩))
  all_goals
    go_ret
    refine ⟨ret_bool ?_, (Below.refl _ _).alloc (Nat.le_refl _) _⟩
    rw [← HB.out]
    have m1 := HM1.out
    have m2 := HM2.out
    first
      | exact (decide_eq_false (by unfold rangT; omega)).symm
      | exact (decide_eq_true (by unfold rangT; omega)).symm
      | (rw [Bool.eq_iff_iff]; simp only [decide_eq_true_eq, beq_iff_eq, Bool.and_eq_true]; unfold rangT; omega)

theorem prang_15 (ex : Int) (bl wl : Nat) (at_ n v an orr co le : Int) (mo : Bool) (nx : Int) (ol : Nat) (BA WA OA : Option Addr) (bc wc oc : Nat) (w : World) (fo : Bool) (b : Bool) (hb : decide (rangT 15 bl wl n v co le nx fo.toNat) = b) :
    Calls Try.prog 29 #[.agg #[.int .i64 15, .int .i64 ex, .slice BA bl bc, .slice WA wl wc, .int .i64 at_, .int .i64 n, .int .u16 v, .int .u16 an, .int .u16 orr, .int .i64 co, .int .i64 le, .bool mo, .int .i64 nx, .slice OA ol oc]] w fun e w' => e = .returned (.bool b) ∧ Below w.heap.size w w' := by
  have HB := Lib.hid hb
  clear hb
  have HM1 : Hid (kMostR 15 = 0) := rfl
  have HM2 : Hid (kMostW 15 = 1968) := rfl
  obtain ⟨hc, hHC⟩ : ∃ c, decide (1 ≤ n ∧ n ≤ 1968) = c := ⟨_, rfl⟩
  have HC := Lib.hid hHC
  clear hHC
  cases hc
  all_goals
    go_enter Try.func29, Try.ntmps29
    go_wp2_with (first
      | (go_at_call 58; refine (pmost_lit 15 0 1968 _ HM1.out HM2.out).mono ?_; rintro e w' ⟨rfl, rfl⟩)
      | (go_at_call 59; (with_reducible refine (pwithin_lit n 1968 _ _ HC.out).mono ?_); rintro e w' ⟨rfl, rfl⟩))
    all_goals
      go_ret
      refine ⟨ret_bool ?_, (Below.refl _ _).alloc (Nat.le_refl _) _⟩
      rw [← HB.out]
      have m1 := HM1.out
      have m2 := HM2.out
      have qhc := HC.out
      simp only [decide_eq_true_eq, decide_eq_false_iff_not] at qhc
      first
        | exact (decide_eq_false (by unfold rangT; omega)).symm
        | exact (decide_eq_true (by unfold rangT; omega)).symm
        | (rw [Bool.eq_iff_iff]; simp only [decide_eq_true_eq, beq_iff_eq, Bool.and_eq_true]; unfold rangT; omega)

theorem prang_16 (ex : Int) (bl wl : Nat) (at_ n v an orr co le : Int) (mo : Bool) (nx : Int) (ol : Nat) (BA WA OA : Option Addr) (bc wc oc : Nat) (w : World) (fo : Bool) (b : Bool) (hb : decide (rangT 16 bl wl n v co le nx fo.toNat) = b) :
    Calls Try.prog 29 #[.agg #[.int .i64 16, .int .i64 ex, .slice BA bl bc, .slice WA wl wc, .int .i64 at_, .int .i64 n, .int .u16 v, .int .u16 an, .int .u16 orr, .int .i64 co, .int .i64 le, .bool mo, .int .i64 nx, .slice OA ol oc]] w fun e w' => e = .returned (.bool b) ∧ Below w.heap.size w w' := by
  have HB := Lib.hid hb
  clear hb
  have HM1 : Hid (kMostR 16 = 0) := rfl
  have HM2 : Hid (kMostW 16 = 123) := rfl
  obtain ⟨hc, hHC⟩ : ∃ c, decide (1 ≤ n ∧ n ≤ 123) = c := ⟨_, rfl⟩
  have HC := Lib.hid hHC
  clear hHC
  cases hc
  all_goals
    go_enter Try.func29, Try.ntmps29
    go_wp2_with (first
      | (go_at_call 58; refine (pmost_lit 16 0 123 _ HM1.out HM2.out).mono ?_; rintro e w' ⟨rfl, rfl⟩)
      | (go_at_call 59; (with_reducible refine (pwithin_lit n 123 _ _ HC.out).mono ?_); rintro e w' ⟨rfl, rfl⟩))
    all_goals
      go_ret
      refine ⟨ret_bool ?_, (Below.refl _ _).alloc (Nat.le_refl _) _⟩
      rw [← HB.out]
      have m1 := HM1.out
      have m2 := HM2.out
      have qhc := HC.out
      simp only [decide_eq_true_eq, decide_eq_false_iff_not] at qhc
      first
        | exact (decide_eq_false (by unfold rangT; omega)).symm
        | exact (decide_eq_true (by unfold rangT; omega)).symm
        | (rw [Bool.eq_iff_iff]; simp only [decide_eq_true_eq, beq_iff_eq, Bool.and_eq_true]; unfold rangT; omega)

theorem prang_22 (ex : Int) (bl wl : Nat) (at_ n v an orr co le : Int) (mo : Bool) (nx : Int) (ol : Nat) (BA WA OA : Option Addr) (bc wc oc : Nat) (w : World) (fo : Bool) (b : Bool) (hb : decide (rangT 22 bl wl n v co le nx fo.toNat) = b) :
    Calls Try.prog 29 #[.agg #[.int .i64 22, .int .i64 ex, .slice BA bl bc, .slice WA wl wc, .int .i64 at_, .int .i64 n, .int .u16 v, .int .u16 an, .int .u16 orr, .int .i64 co, .int .i64 le, .bool mo, .int .i64 nx, .slice OA ol oc]] w fun e w' => e = .returned (.bool b) ∧ Below w.heap.size w w' := by
  have HB := Lib.hid hb
  clear hb
  have HM1 : Hid (kMostR 22 = 0) := rfl
  have HM2 : Hid (kMostW 22 = 1) := rfl
  go_enter Try.func29, Try.ntmps29
  go_wp2_with (first
    | (go_at_call 58; refine (pmost_lit 22 0 1 _ HM1.out HM2.out).mono ?_; rintro e w' ⟨rfl, rfl⟩))
  all_goals
    go_ret
    refine ⟨ret_bool ?_, (Below.refl _ _).alloc (Nat.le_refl _) _⟩
    rw [← HB.out]
    have m1 := HM1.out
    have m2 := HM2.out
    first
      | exact (decide_eq_false (by unfold rangT; omega)).symm
      | exact (decide_eq_true (by unfold rangT; omega)).symm
      | (rw [Bool.eq_iff_iff]; simp only [decide_eq_true_eq, beq_iff_eq, Bool.and_eq_true]; unfold rangT; omega)

theorem prang_23 (ex : Int) (bl wl : Nat) (at_ n v an orr co le : Int) (mo : Bool) (nx : Int) (ol : Nat) (BA WA OA : Option Addr) (bc wc oc : Nat) (w : World) (fo : Bool) (b : Bool) (hb : decide (rangT 23 bl wl n v co le nx fo.toNat) = b) :
    Calls Try.prog 29 #[.agg #[.int .i64 23, .int .i64 ex, .slice BA bl bc, .slice WA wl wc, .int .i64 at_, .int .i64 n, .int .u16 v, .int .u16 an, .int .u16 orr, .int .i64 co, .int .i64 le, .bool mo, .int .i64 nx, .slice OA ol oc]] w fun e w' => e = .returned (.bool b) ∧ Below w.heap.size w w' := by
  have HB := Lib.hid hb
  clear hb
  have HM1 : Hid (kMostR 23 = 125) := rfl
  have HM2 : Hid (kMostW 23 = 121) := rfl
  obtain ⟨hc, hHC⟩ : ∃ c, decide (1 ≤ (wl : Int) ∧ (wl : Int) ≤ 125) = c := ⟨_, rfl⟩
  have HC := Lib.hid hHC
  clear hHC
  cases hc
  all_goals
    go_enter Try.func29, Try.ntmps29
    go_wp2_with (first
      | (go_at_call 58; refine (pmost_lit 23 125 121 _ HM1.out HM2.out).mono ?_; rintro e w' ⟨rfl, rfl⟩)
      | (go_at_call 59; (with_reducible refine (pwithin_lit (wl : Int) 125 _ _ HC.out).mono ?_); rintro e w' ⟨rfl, rfl⟩))
    all_goals
      go_ret
      refine ⟨ret_bool ?_, (Below.refl _ _).alloc (Nat.le_refl _) _⟩
      rw [← HB.out]
      have m1 := HM1.out
      have m2 := HM2.out
      have qhc := HC.out
      simp only [decide_eq_true_eq, decide_eq_false_iff_not] at qhc
      first
        | exact (decide_eq_false (by unfold rangT; omega)).symm
        | exact (decide_eq_true (by unfold rangT; omega)).symm
        | (rw [Bool.eq_iff_iff]; simp only [decide_eq_true_eq, beq_iff_eq, Bool.and_eq_true]; unfold rangT; omega)

theorem prang_43 (ex : Int) (bl wl : Nat) (at_ n v an orr co le : Int) (mo : Bool) (nx : Int) (ol : Nat) (BA WA OA : Option Addr) (bc wc oc : Nat) (w : World) (fo : Bool) (b : Bool) (hb : decide (rangT 43 bl wl n v co le nx fo.toNat) = b) (hf : Fits w OA ol oc fo) :
    Calls Try.prog 29 #[.agg #[.int .i64 43, .int .i64 ex, .slice BA bl bc, .slice WA wl wc, .int .i64 at_, .int .i64 n, .int .u16 v, .int .u16 an, .int .u16 orr, .int .i64 co, .int .i64 le, .bool mo, .int .i64 nx, .slice OA ol oc]] w fun e w' => e = .returned (.bool b) ∧ Below w.heap.size w w' := by
  have HB := Lib.hid hb
  clear hb
  have HM1 : Hid (kMostR 43 = 0) := rfl
  have HM2 : Hid (kMostW 43 = 0) := rfl
  obtain ⟨hc, hHC⟩ : ∃ c, decide (1 ≤ co ∧ co ≤ 4) = c := ⟨_, rfl⟩
  have HC := Lib.hid hHC
  clear hHC
  obtain ⟨hd, hHD⟩ : ∃ c, decide (0 ≤ le ∧ le ≤ 255) = c := ⟨_, rfl⟩
  have HD := Lib.hid hHD
  clear hHD
  obtain ⟨he, hHE⟩ : ∃ c, decide (0 ≤ nx ∧ nx ≤ 255) = c := ⟨_, rfl⟩
  have HE := Lib.hid hHE
  clear hHE
  have HF := Lib.hid hf
  clear hf
  cases hc <;> cases hd <;> cases he
  all_goals
    go_enter Try.func29, Try.ntmps29
    go_wp2_with (first
      | (go_at_call 58; refine (pmost_lit 43 0 0 _ HM1.out HM2.out).mono ?_; rintro e w' ⟨rfl, rfl⟩)
      | (go_at_call 59; (with_reducible refine (pwithin_lit co 4 _ _ HC.out).mono ?_); rintro e w' ⟨rfl, rfl⟩)
      | (go_at_call 32; (with_reducible refine (isbyte_lit le _ _ HD.out).mono ?_); rintro e w' ⟨rfl, rfl⟩)
      | (go_at_call 32; (with_reducible refine (isbyte_lit nx _ _ HE.out).mono ?_); rintro e w' ⟨rfl, rfl⟩)
      | (go_at_call 60; refine (HF.out _ ((Below.refl _ _).alloc (Nat.le_refl _) _)).mono ?_; rintro e w4 ⟨rfl, hb4⟩; have HB4 : Hid (Below w.heap.size w w4) := ((Below.refl _ _).alloc (Nat.le_refl _) _).trans (hb4.mono (by simp)); clear hb4))
    all_goals
      go_ret
      refine ⟨ret_bool ?_, by first | exact HB4.out | exact (Below.refl _ _).alloc (Nat.le_refl _) _⟩
      rw [← HB.out]
      have m1 := HM1.out
      have m2 := HM2.out
      have qhc := HC.out
      simp only [decide_eq_true_eq, decide_eq_false_iff_not] at qhc
      have qhd := HD.out
      simp only [decide_eq_true_eq, decide_eq_false_iff_not] at qhd
      have qhe := HE.out
      simp only [decide_eq_true_eq, decide_eq_false_iff_not] at qhe
      have t1 : true.toNat = 1 := rfl
      have t0 : false.toNat = 0 := rfl
      cases fo <;>
      first
        | exact (decide_eq_false (by unfold rangT; omega)).symm
        | exact (decide_eq_true (by unfold rangT; omega)).symm
        | (rw [Bool.eq_iff_iff]; simp only [decide_eq_true_eq, beq_iff_eq, Bool.and_eq_true]; unfold rangT; omega)

end Go.Proofs.Ytielfekkonflfaa

/- The document's Right of a request. -/
import Derived.Test.YtielfekkonflfaaAskSpec
import Derived.Test.YtielfekkonflfaaHeads
namespace Go.Proofs.Ytielfekkonflfaa
open Go.ChangeShapes Go.WideShapes Go.ChangeAt Go.RowKit
set_option linter.unusedVariables false

theorem bne_t {x : Int} (h : (x != 0) = true) : x ≠ 0 := by simpa using h
theorem bne_f {x : Int} (h : (x != 0) = false) : x = 0 := by simpa using h

theorem rplain_1 (at_ n v an orr : Int) (bl wl : Nat) (ra rn co ob : Int) (BA WA : Option Addr) (bc wc : Nat) (w : World) :
    Calls Try.prog 73 #[.agg #[.int .i64 1, .int .i64 at_, .int .i64 n, .int .u16 v, .int .u16 an, .int .u16 orr, .slice BA bl bc, .slice WA wl wc, .int .i64 ra, .int .i64 rn, .int .i64 co, .int .i64 ob]] w fun e w' => e = .returned (.bool (decide (plainP 1 at_ n v an orr bl wl ra rn co ob))) ∧ Below w.heap.size w w' := by
  go_enter Try.func73, Try.ntmps73
  go_wp2
  all_goals
    go_ret
    refine ⟨ret_bool ?_, (Below.refl _ _).alloc (Nat.le_refl _) _⟩
    try have := bne_t (x := at_) (by assumption)
    try have := bne_f (x := at_) (by assumption)
    try have := bne_t (x := n) (by assumption)
    try have := bne_f (x := n) (by assumption)
    try have := bne_t (x := v) (by assumption)
    try have := bne_f (x := v) (by assumption)
    try have := bne_t (x := orr) (by assumption)
    try have := bne_f (x := orr) (by assumption)
    try have := bne_t (x := rn) (by assumption)
    try have := bne_f (x := rn) (by assumption)
    try have := bne_t (x := ob) (by assumption)
    try have := bne_f (x := ob) (by assumption)
    first
      | exact (decide_eq_false (by unfold plainP; omega)).symm
      | exact (decide_eq_true (by unfold plainP; omega)).symm

theorem rplain_2 (at_ n v an orr : Int) (bl wl : Nat) (ra rn co ob : Int) (BA WA : Option Addr) (bc wc : Nat) (w : World) :
    Calls Try.prog 73 #[.agg #[.int .i64 2, .int .i64 at_, .int .i64 n, .int .u16 v, .int .u16 an, .int .u16 orr, .slice BA bl bc, .slice WA wl wc, .int .i64 ra, .int .i64 rn, .int .i64 co, .int .i64 ob]] w fun e w' => e = .returned (.bool (decide (plainP 2 at_ n v an orr bl wl ra rn co ob))) ∧ Below w.heap.size w w' := by
  go_enter Try.func73, Try.ntmps73
  go_wp2
  all_goals
    go_ret
    refine ⟨ret_bool ?_, (Below.refl _ _).alloc (Nat.le_refl _) _⟩
    try have := bne_t (x := at_) (by assumption)
    try have := bne_f (x := at_) (by assumption)
    try have := bne_t (x := n) (by assumption)
    try have := bne_f (x := n) (by assumption)
    try have := bne_t (x := v) (by assumption)
    try have := bne_f (x := v) (by assumption)
    try have := bne_t (x := orr) (by assumption)
    try have := bne_f (x := orr) (by assumption)
    try have := bne_t (x := rn) (by assumption)
    try have := bne_f (x := rn) (by assumption)
    try have := bne_t (x := ob) (by assumption)
    try have := bne_f (x := ob) (by assumption)
    first
      | exact (decide_eq_false (by unfold plainP; omega)).symm
      | exact (decide_eq_true (by unfold plainP; omega)).symm

theorem rplain_3 (at_ n v an orr : Int) (bl wl : Nat) (ra rn co ob : Int) (BA WA : Option Addr) (bc wc : Nat) (w : World) :
    Calls Try.prog 73 #[.agg #[.int .i64 3, .int .i64 at_, .int .i64 n, .int .u16 v, .int .u16 an, .int .u16 orr, .slice BA bl bc, .slice WA wl wc, .int .i64 ra, .int .i64 rn, .int .i64 co, .int .i64 ob]] w fun e w' => e = .returned (.bool (decide (plainP 3 at_ n v an orr bl wl ra rn co ob))) ∧ Below w.heap.size w w' := by
  go_enter Try.func73, Try.ntmps73
  go_wp2
  all_goals
    go_ret
    refine ⟨ret_bool ?_, (Below.refl _ _).alloc (Nat.le_refl _) _⟩
    try have := bne_t (x := at_) (by assumption)
    try have := bne_f (x := at_) (by assumption)
    try have := bne_t (x := n) (by assumption)
    try have := bne_f (x := n) (by assumption)
    try have := bne_t (x := v) (by assumption)
    try have := bne_f (x := v) (by assumption)
    try have := bne_t (x := orr) (by assumption)
    try have := bne_f (x := orr) (by assumption)
    try have := bne_t (x := rn) (by assumption)
    try have := bne_f (x := rn) (by assumption)
    try have := bne_t (x := ob) (by assumption)
    try have := bne_f (x := ob) (by assumption)
    first
      | exact (decide_eq_false (by unfold plainP; omega)).symm
      | exact (decide_eq_true (by unfold plainP; omega)).symm

theorem rplain_4 (at_ n v an orr : Int) (bl wl : Nat) (ra rn co ob : Int) (BA WA : Option Addr) (bc wc : Nat) (w : World) :
    Calls Try.prog 73 #[.agg #[.int .i64 4, .int .i64 at_, .int .i64 n, .int .u16 v, .int .u16 an, .int .u16 orr, .slice BA bl bc, .slice WA wl wc, .int .i64 ra, .int .i64 rn, .int .i64 co, .int .i64 ob]] w fun e w' => e = .returned (.bool (decide (plainP 4 at_ n v an orr bl wl ra rn co ob))) ∧ Below w.heap.size w w' := by
  go_enter Try.func73, Try.ntmps73
  go_wp2
  all_goals
    go_ret
    refine ⟨ret_bool ?_, (Below.refl _ _).alloc (Nat.le_refl _) _⟩
    try have := bne_t (x := at_) (by assumption)
    try have := bne_f (x := at_) (by assumption)
    try have := bne_t (x := n) (by assumption)
    try have := bne_f (x := n) (by assumption)
    try have := bne_t (x := v) (by assumption)
    try have := bne_f (x := v) (by assumption)
    try have := bne_t (x := orr) (by assumption)
    try have := bne_f (x := orr) (by assumption)
    try have := bne_t (x := rn) (by assumption)
    try have := bne_f (x := rn) (by assumption)
    try have := bne_t (x := ob) (by assumption)
    try have := bne_f (x := ob) (by assumption)
    first
      | exact (decide_eq_false (by unfold plainP; omega)).symm
      | exact (decide_eq_true (by unfold plainP; omega)).symm

theorem rplain_5 (at_ n v an orr : Int) (bl wl : Nat) (ra rn co ob : Int) (BA WA : Option Addr) (bc wc : Nat) (w : World) :
    Calls Try.prog 73 #[.agg #[.int .i64 5, .int .i64 at_, .int .i64 n, .int .u16 v, .int .u16 an, .int .u16 orr, .slice BA bl bc, .slice WA wl wc, .int .i64 ra, .int .i64 rn, .int .i64 co, .int .i64 ob]] w fun e w' => e = .returned (.bool (decide (plainP 5 at_ n v an orr bl wl ra rn co ob))) ∧ Below w.heap.size w w' := by
  go_enter Try.func73, Try.ntmps73
  go_wp2
  all_goals
    go_ret
    refine ⟨ret_bool ?_, (Below.refl _ _).alloc (Nat.le_refl _) _⟩
    try have := bne_t (x := at_) (by assumption)
    try have := bne_f (x := at_) (by assumption)
    try have := bne_t (x := n) (by assumption)
    try have := bne_f (x := n) (by assumption)
    try have := bne_t (x := v) (by assumption)
    try have := bne_f (x := v) (by assumption)
    try have := bne_t (x := orr) (by assumption)
    try have := bne_f (x := orr) (by assumption)
    try have := bne_t (x := rn) (by assumption)
    try have := bne_f (x := rn) (by assumption)
    try have := bne_t (x := ob) (by assumption)
    try have := bne_f (x := ob) (by assumption)
    first
      | exact (decide_eq_false (by unfold plainP; omega)).symm
      | exact (decide_eq_true (by unfold plainP; omega)).symm

theorem rplain_6 (at_ n v an orr : Int) (bl wl : Nat) (ra rn co ob : Int) (BA WA : Option Addr) (bc wc : Nat) (w : World) :
    Calls Try.prog 73 #[.agg #[.int .i64 6, .int .i64 at_, .int .i64 n, .int .u16 v, .int .u16 an, .int .u16 orr, .slice BA bl bc, .slice WA wl wc, .int .i64 ra, .int .i64 rn, .int .i64 co, .int .i64 ob]] w fun e w' => e = .returned (.bool (decide (plainP 6 at_ n v an orr bl wl ra rn co ob))) ∧ Below w.heap.size w w' := by
  go_enter Try.func73, Try.ntmps73
  go_wp2
  all_goals
    go_ret
    refine ⟨ret_bool ?_, (Below.refl _ _).alloc (Nat.le_refl _) _⟩
    try have := bne_t (x := at_) (by assumption)
    try have := bne_f (x := at_) (by assumption)
    try have := bne_t (x := n) (by assumption)
    try have := bne_f (x := n) (by assumption)
    try have := bne_t (x := v) (by assumption)
    try have := bne_f (x := v) (by assumption)
    try have := bne_t (x := orr) (by assumption)
    try have := bne_f (x := orr) (by assumption)
    try have := bne_t (x := rn) (by assumption)
    try have := bne_f (x := rn) (by assumption)
    try have := bne_t (x := ob) (by assumption)
    try have := bne_f (x := ob) (by assumption)
    first
      | exact (decide_eq_false (by unfold plainP; omega)).symm
      | exact (decide_eq_true (by unfold plainP; omega)).symm

theorem rplain_15 (at_ n v an orr : Int) (bl wl : Nat) (ra rn co ob : Int) (BA WA : Option Addr) (bc wc : Nat) (w : World) :
    Calls Try.prog 73 #[.agg #[.int .i64 15, .int .i64 at_, .int .i64 n, .int .u16 v, .int .u16 an, .int .u16 orr, .slice BA bl bc, .slice WA wl wc, .int .i64 ra, .int .i64 rn, .int .i64 co, .int .i64 ob]] w fun e w' => e = .returned (.bool (decide (plainP 15 at_ n v an orr bl wl ra rn co ob))) ∧ Below w.heap.size w w' := by
  go_enter Try.func73, Try.ntmps73
  go_wp2
  all_goals
    go_ret
    refine ⟨ret_bool ?_, (Below.refl _ _).alloc (Nat.le_refl _) _⟩
    try have := bne_t (x := at_) (by assumption)
    try have := bne_f (x := at_) (by assumption)
    try have := bne_t (x := n) (by assumption)
    try have := bne_f (x := n) (by assumption)
    try have := bne_t (x := v) (by assumption)
    try have := bne_f (x := v) (by assumption)
    try have := bne_t (x := orr) (by assumption)
    try have := bne_f (x := orr) (by assumption)
    try have := bne_t (x := rn) (by assumption)
    try have := bne_f (x := rn) (by assumption)
    try have := bne_t (x := ob) (by assumption)
    try have := bne_f (x := ob) (by assumption)
    first
      | exact (decide_eq_false (by unfold plainP; omega)).symm
      | exact (decide_eq_true (by unfold plainP; omega)).symm

theorem rplain_16 (at_ n v an orr : Int) (bl wl : Nat) (ra rn co ob : Int) (BA WA : Option Addr) (bc wc : Nat) (w : World) :
    Calls Try.prog 73 #[.agg #[.int .i64 16, .int .i64 at_, .int .i64 n, .int .u16 v, .int .u16 an, .int .u16 orr, .slice BA bl bc, .slice WA wl wc, .int .i64 ra, .int .i64 rn, .int .i64 co, .int .i64 ob]] w fun e w' => e = .returned (.bool (decide (plainP 16 at_ n v an orr bl wl ra rn co ob))) ∧ Below w.heap.size w w' := by
  go_enter Try.func73, Try.ntmps73
  go_wp2
  all_goals
    go_ret
    refine ⟨ret_bool ?_, (Below.refl _ _).alloc (Nat.le_refl _) _⟩
    try have := bne_t (x := at_) (by assumption)
    try have := bne_f (x := at_) (by assumption)
    try have := bne_t (x := n) (by assumption)
    try have := bne_f (x := n) (by assumption)
    try have := bne_t (x := v) (by assumption)
    try have := bne_f (x := v) (by assumption)
    try have := bne_t (x := orr) (by assumption)
    try have := bne_f (x := orr) (by assumption)
    try have := bne_t (x := rn) (by assumption)
    try have := bne_f (x := rn) (by assumption)
    try have := bne_t (x := ob) (by assumption)
    try have := bne_f (x := ob) (by assumption)
    first
      | exact (decide_eq_false (by unfold plainP; omega)).symm
      | exact (decide_eq_true (by unfold plainP; omega)).symm

theorem rplain_22 (at_ n v an orr : Int) (bl wl : Nat) (ra rn co ob : Int) (BA WA : Option Addr) (bc wc : Nat) (w : World) :
    Calls Try.prog 73 #[.agg #[.int .i64 22, .int .i64 at_, .int .i64 n, .int .u16 v, .int .u16 an, .int .u16 orr, .slice BA bl bc, .slice WA wl wc, .int .i64 ra, .int .i64 rn, .int .i64 co, .int .i64 ob]] w fun e w' => e = .returned (.bool (decide (plainP 22 at_ n v an orr bl wl ra rn co ob))) ∧ Below w.heap.size w w' := by
  go_enter Try.func73, Try.ntmps73
  go_wp2
  all_goals
    go_ret
    refine ⟨ret_bool ?_, (Below.refl _ _).alloc (Nat.le_refl _) _⟩
    try have := bne_t (x := at_) (by assumption)
    try have := bne_f (x := at_) (by assumption)
    try have := bne_t (x := n) (by assumption)
    try have := bne_f (x := n) (by assumption)
    try have := bne_t (x := v) (by assumption)
    try have := bne_f (x := v) (by assumption)
    try have := bne_t (x := orr) (by assumption)
    try have := bne_f (x := orr) (by assumption)
    try have := bne_t (x := rn) (by assumption)
    try have := bne_f (x := rn) (by assumption)
    try have := bne_t (x := ob) (by assumption)
    try have := bne_f (x := ob) (by assumption)
    first
      | exact (decide_eq_false (by unfold plainP; omega)).symm
      | exact (decide_eq_true (by unfold plainP; omega)).symm

theorem rplain_23 (at_ n v an orr : Int) (bl wl : Nat) (ra rn co ob : Int) (BA WA : Option Addr) (bc wc : Nat) (w : World) :
    Calls Try.prog 73 #[.agg #[.int .i64 23, .int .i64 at_, .int .i64 n, .int .u16 v, .int .u16 an, .int .u16 orr, .slice BA bl bc, .slice WA wl wc, .int .i64 ra, .int .i64 rn, .int .i64 co, .int .i64 ob]] w fun e w' => e = .returned (.bool (decide (plainP 23 at_ n v an orr bl wl ra rn co ob))) ∧ Below w.heap.size w w' := by
  go_enter Try.func73, Try.ntmps73
  go_wp2
  all_goals
    go_ret
    refine ⟨ret_bool ?_, (Below.refl _ _).alloc (Nat.le_refl _) _⟩
    try have := bne_t (x := at_) (by assumption)
    try have := bne_f (x := at_) (by assumption)
    try have := bne_t (x := n) (by assumption)
    try have := bne_f (x := n) (by assumption)
    try have := bne_t (x := v) (by assumption)
    try have := bne_f (x := v) (by assumption)
    try have := bne_t (x := orr) (by assumption)
    try have := bne_f (x := orr) (by assumption)
    try have := bne_t (x := rn) (by assumption)
    try have := bne_f (x := rn) (by assumption)
    try have := bne_t (x := ob) (by assumption)
    try have := bne_f (x := ob) (by assumption)
    first
      | exact (decide_eq_false (by unfold plainP; omega)).symm
      | exact (decide_eq_true (by unfold plainP; omega)).symm

theorem rplain_43 (at_ n v an orr : Int) (bl wl : Nat) (ra rn co ob : Int) (BA WA : Option Addr) (bc wc : Nat) (w : World) :
    Calls Try.prog 73 #[.agg #[.int .i64 43, .int .i64 at_, .int .i64 n, .int .u16 v, .int .u16 an, .int .u16 orr, .slice BA bl bc, .slice WA wl wc, .int .i64 ra, .int .i64 rn, .int .i64 co, .int .i64 ob]] w fun e w' => e = .returned (.bool (decide (plainP 43 at_ n v an orr bl wl ra rn co ob))) ∧ Below w.heap.size w w' := by
  go_enter Try.func73, Try.ntmps73
  go_wp2
  all_goals
    go_ret
    refine ⟨ret_bool ?_, (Below.refl _ _).alloc (Nat.le_refl _) _⟩
    try have := bne_t (x := at_) (by assumption)
    try have := bne_f (x := at_) (by assumption)
    try have := bne_t (x := n) (by assumption)
    try have := bne_f (x := n) (by assumption)
    try have := bne_t (x := v) (by assumption)
    try have := bne_f (x := v) (by assumption)
    try have := bne_t (x := orr) (by assumption)
    try have := bne_f (x := orr) (by assumption)
    try have := bne_t (x := rn) (by assumption)
    try have := bne_f (x := rn) (by assumption)
    try have := bne_t (x := ob) (by assumption)
    try have := bne_f (x := ob) (by assumption)
    first
      | exact (decide_eq_false (by unfold plainP; omega)).symm
      | exact (decide_eq_true (by unfold plainP; omega)).symm

/-- plain, of a function that is known. -/
theorem rplain_any (fn at_ n v an orr : Int) (bl wl : Nat) (ra rn co ob : Int) (BA WA : Option Addr) (bc wc : Nat) (w : World) (hk : kKnown fn = true) :
    Calls Try.prog 73 #[.agg #[.int .i64 fn, .int .i64 at_, .int .i64 n, .int .u16 v, .int .u16 an, .int .u16 orr, .slice BA bl bc, .slice WA wl wc, .int .i64 ra, .int .i64 rn, .int .i64 co, .int .i64 ob]] w fun e w' => e = .returned (.bool (decide (plainP fn at_ n v an orr bl wl ra rn co ob))) ∧ Below w.heap.size w w' := by
  rcases kinds fn with rfl | rfl | rfl | rfl | rfl | rfl | rfl | rfl | rfl | rfl | rfl | h
  · exact rplain_1 at_ n v an orr bl wl ra rn co ob BA WA bc wc w
  · exact rplain_2 at_ n v an orr bl wl ra rn co ob BA WA bc wc w
  · exact rplain_3 at_ n v an orr bl wl ra rn co ob BA WA bc wc w
  · exact rplain_4 at_ n v an orr bl wl ra rn co ob BA WA bc wc w
  · exact rplain_5 at_ n v an orr bl wl ra rn co ob BA WA bc wc w
  · exact rplain_6 at_ n v an orr bl wl ra rn co ob BA WA bc wc w
  · exact rplain_15 at_ n v an orr bl wl ra rn co ob BA WA bc wc w
  · exact rplain_16 at_ n v an orr bl wl ra rn co ob BA WA bc wc w
  · exact rplain_22 at_ n v an orr bl wl ra rn co ob BA WA bc wc w
  · exact rplain_23 at_ n v an orr bl wl ra rn co ob BA WA bc wc w
  · exact rplain_43 at_ n v an orr bl wl ra rn co ob BA WA bc wc w
  · rw [h.known] at hk; cases hk

end Go.Proofs.Ytielfekkonflfaa

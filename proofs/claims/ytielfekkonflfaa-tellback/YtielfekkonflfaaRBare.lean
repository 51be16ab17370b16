/- The document's bare of a reply. -/
import Derived.Test.YtielfekkonflfaaTSpec
import Derived.Test.YtielfekkonflfaaAskRight
import Derived.Test.YtielfekkonflfaaKinds
namespace Go.Proofs.Ytielfekkonflfaa
open Go.ChangeShapes Go.WideShapes Go.ChangeAt Go.RowKit
set_option linter.unusedVariables false
set_option linter.unusedSimpArgs false

set_option maxRecDepth 100000 in
set_option maxHeartbeats 2000000 in
theorem rbare_1 (bl wl : Nat) (at_ n v an orr co le : Int) (mo : Bool) (nx : Int) (ol : Nat) (BA WA OA : Option Addr) (bc wc oc : Nat) (w : World) :
    Calls Try.prog 65 #[.agg #[.int .i64 1, .int .i64 0, .slice BA bl bc, .slice WA wl wc, .int .i64 at_, .int .i64 n, .int .u16 v, .int .u16 an, .int .u16 orr, .int .i64 co, .int .i64 le, .bool mo, .int .i64 nx, .slice OA ol oc]] w fun e w' => e = .returned (.bool (decide (restT 1 bl wl at_ n v an orr co le mo.toNat nx ol))) ∧ Below w.heap.size w w' := by
  cases mo
  all_goals
    go_enter Try.func65, Try.ntmps65
    go_wp2
    all_goals
      go_ret
      refine ⟨ret_bool ?_, (Below.refl _ _).alloc (Nat.le_refl _) _⟩
      have t0 : false.toNat = 0 := rfl
      have t1 : true.toNat = 1 := rfl
      try have := bne_t (x := at_) (by assumption)
      try have := bne_f (x := at_) (by assumption)
      try have := bne_t (x := n) (by assumption)
      try have := bne_f (x := n) (by assumption)
      try have := bne_t (x := v) (by assumption)
      try have := bne_f (x := v) (by assumption)
      try have := bne_t (x := an) (by assumption)
      try have := bne_f (x := an) (by assumption)
      try have := bne_t (x := orr) (by assumption)
      try have := bne_f (x := orr) (by assumption)
      try have := bne_t (x := co) (by assumption)
      try have := bne_f (x := co) (by assumption)
      try have := bne_t (x := le) (by assumption)
      try have := bne_f (x := le) (by assumption)
      try have := bne_t (x := nx) (by assumption)
      try have := bne_f (x := nx) (by assumption)
      first
        | exact (decide_eq_false (by unfold restT; omega)).symm
        | exact (decide_eq_true (by unfold restT; omega)).symm

set_option maxRecDepth 100000 in
set_option maxHeartbeats 2000000 in
theorem rbare_2 (bl wl : Nat) (at_ n v an orr co le : Int) (mo : Bool) (nx : Int) (ol : Nat) (BA WA OA : Option Addr) (bc wc oc : Nat) (w : World) :
    Calls Try.prog 65 #[.agg #[.int .i64 2, .int .i64 0, .slice BA bl bc, .slice WA wl wc, .int .i64 at_, .int .i64 n, .int .u16 v, .int .u16 an, .int .u16 orr, .int .i64 co, .int .i64 le, .bool mo, .int .i64 nx, .slice OA ol oc]] w fun e w' => e = .returned (.bool (decide (restT 2 bl wl at_ n v an orr co le mo.toNat nx ol))) ∧ Below w.heap.size w w' := by
  cases mo
  all_goals
    go_enter Try.func65, Try.ntmps65
    go_wp2
    all_goals
      go_ret
      refine ⟨ret_bool ?_, (Below.refl _ _).alloc (Nat.le_refl _) _⟩
      have t0 : false.toNat = 0 := rfl
      have t1 : true.toNat = 1 := rfl
      try have := bne_t (x := at_) (by assumption)
      try have := bne_f (x := at_) (by assumption)
      try have := bne_t (x := n) (by assumption)
      try have := bne_f (x := n) (by assumption)
      try have := bne_t (x := v) (by assumption)
      try have := bne_f (x := v) (by assumption)
      try have := bne_t (x := an) (by assumption)
      try have := bne_f (x := an) (by assumption)
      try have := bne_t (x := orr) (by assumption)
      try have := bne_f (x := orr) (by assumption)
      try have := bne_t (x := co) (by assumption)
      try have := bne_f (x := co) (by assumption)
      try have := bne_t (x := le) (by assumption)
      try have := bne_f (x := le) (by assumption)
      try have := bne_t (x := nx) (by assumption)
      try have := bne_f (x := nx) (by assumption)
      first
        | exact (decide_eq_false (by unfold restT; omega)).symm
        | exact (decide_eq_true (by unfold restT; omega)).symm

set_option maxRecDepth 100000 in
set_option maxHeartbeats 2000000 in
theorem rbare_3 (bl wl : Nat) (at_ n v an orr co le : Int) (mo : Bool) (nx : Int) (ol : Nat) (BA WA OA : Option Addr) (bc wc oc : Nat) (w : World) :
    Calls Try.prog 65 #[.agg #[.int .i64 3, .int .i64 0, .slice BA bl bc, .slice WA wl wc, .int .i64 at_, .int .i64 n, .int .u16 v, .int .u16 an, .int .u16 orr, .int .i64 co, .int .i64 le, .bool mo, .int .i64 nx, .slice OA ol oc]] w fun e w' => e = .returned (.bool (decide (restT 3 bl wl at_ n v an orr co le mo.toNat nx ol))) ∧ Below w.heap.size w w' := by
  cases mo
  all_goals
    go_enter Try.func65, Try.ntmps65
    go_wp2
    all_goals
      go_ret
      refine ⟨ret_bool ?_, (Below.refl _ _).alloc (Nat.le_refl _) _⟩
      have t0 : false.toNat = 0 := rfl
      have t1 : true.toNat = 1 := rfl
      try have := bne_t (x := at_) (by assumption)
      try have := bne_f (x := at_) (by assumption)
      try have := bne_t (x := n) (by assumption)
      try have := bne_f (x := n) (by assumption)
      try have := bne_t (x := v) (by assumption)
      try have := bne_f (x := v) (by assumption)
      try have := bne_t (x := an) (by assumption)
      try have := bne_f (x := an) (by assumption)
      try have := bne_t (x := orr) (by assumption)
      try have := bne_f (x := orr) (by assumption)
      try have := bne_t (x := co) (by assumption)
      try have := bne_f (x := co) (by assumption)
      try have := bne_t (x := le) (by assumption)
      try have := bne_f (x := le) (by assumption)
      try have := bne_t (x := nx) (by assumption)
      try have := bne_f (x := nx) (by assumption)
      first
        | exact (decide_eq_false (by unfold restT; omega)).symm
        | exact (decide_eq_true (by unfold restT; omega)).symm

set_option maxRecDepth 100000 in
set_option maxHeartbeats 2000000 in
theorem rbare_4 (bl wl : Nat) (at_ n v an orr co le : Int) (mo : Bool) (nx : Int) (ol : Nat) (BA WA OA : Option Addr) (bc wc oc : Nat) (w : World) :
    Calls Try.prog 65 #[.agg #[.int .i64 4, .int .i64 0, .slice BA bl bc, .slice WA wl wc, .int .i64 at_, .int .i64 n, .int .u16 v, .int .u16 an, .int .u16 orr, .int .i64 co, .int .i64 le, .bool mo, .int .i64 nx, .slice OA ol oc]] w fun e w' => e = .returned (.bool (decide (restT 4 bl wl at_ n v an orr co le mo.toNat nx ol))) ∧ Below w.heap.size w w' := by
  cases mo
  all_goals
    go_enter Try.func65, Try.ntmps65
    go_wp2
    all_goals
      go_ret
      refine ⟨ret_bool ?_, (Below.refl _ _).alloc (Nat.le_refl _) _⟩
      have t0 : false.toNat = 0 := rfl
      have t1 : true.toNat = 1 := rfl
      try have := bne_t (x := at_) (by assumption)
      try have := bne_f (x := at_) (by assumption)
      try have := bne_t (x := n) (by assumption)
      try have := bne_f (x := n) (by assumption)
      try have := bne_t (x := v) (by assumption)
      try have := bne_f (x := v) (by assumption)
      try have := bne_t (x := an) (by assumption)
      try have := bne_f (x := an) (by assumption)
      try have := bne_t (x := orr) (by assumption)
      try have := bne_f (x := orr) (by assumption)
      try have := bne_t (x := co) (by assumption)
      try have := bne_f (x := co) (by assumption)
      try have := bne_t (x := le) (by assumption)
      try have := bne_f (x := le) (by assumption)
      try have := bne_t (x := nx) (by assumption)
      try have := bne_f (x := nx) (by assumption)
      first
        | exact (decide_eq_false (by unfold restT; omega)).symm
        | exact (decide_eq_true (by unfold restT; omega)).symm

set_option maxRecDepth 100000 in
set_option maxHeartbeats 2000000 in
theorem rbare_5 (bl wl : Nat) (at_ n v an orr co le : Int) (mo : Bool) (nx : Int) (ol : Nat) (BA WA OA : Option Addr) (bc wc oc : Nat) (w : World) :
    Calls Try.prog 65 #[.agg #[.int .i64 5, .int .i64 0, .slice BA bl bc, .slice WA wl wc, .int .i64 at_, .int .i64 n, .int .u16 v, .int .u16 an, .int .u16 orr, .int .i64 co, .int .i64 le, .bool mo, .int .i64 nx, .slice OA ol oc]] w fun e w' => e = .returned (.bool (decide (restT 5 bl wl at_ n v an orr co le mo.toNat nx ol))) ∧ Below w.heap.size w w' := by
  cases mo
  all_goals
    go_enter Try.func65, Try.ntmps65
    go_wp2
    all_goals
      go_ret
      refine ⟨ret_bool ?_, (Below.refl _ _).alloc (Nat.le_refl _) _⟩
      have t0 : false.toNat = 0 := rfl
      have t1 : true.toNat = 1 := rfl
      try have := bne_t (x := at_) (by assumption)
      try have := bne_f (x := at_) (by assumption)
      try have := bne_t (x := n) (by assumption)
      try have := bne_f (x := n) (by assumption)
      try have := bne_t (x := v) (by assumption)
      try have := bne_f (x := v) (by assumption)
      try have := bne_t (x := an) (by assumption)
      try have := bne_f (x := an) (by assumption)
      try have := bne_t (x := orr) (by assumption)
      try have := bne_f (x := orr) (by assumption)
      try have := bne_t (x := co) (by assumption)
      try have := bne_f (x := co) (by assumption)
      try have := bne_t (x := le) (by assumption)
      try have := bne_f (x := le) (by assumption)
      try have := bne_t (x := nx) (by assumption)
      try have := bne_f (x := nx) (by assumption)
      first
        | exact (decide_eq_false (by unfold restT; omega)).symm
        | exact (decide_eq_true (by unfold restT; omega)).symm

set_option maxRecDepth 100000 in
set_option maxHeartbeats 2000000 in
theorem rbare_6 (bl wl : Nat) (at_ n v an orr co le : Int) (mo : Bool) (nx : Int) (ol : Nat) (BA WA OA : Option Addr) (bc wc oc : Nat) (w : World) :
    Calls Try.prog 65 #[.agg #[.int .i64 6, .int .i64 0, .slice BA bl bc, .slice WA wl wc, .int .i64 at_, .int .i64 n, .int .u16 v, .int .u16 an, .int .u16 orr, .int .i64 co, .int .i64 le, .bool mo, .int .i64 nx, .slice OA ol oc]] w fun e w' => e = .returned (.bool (decide (restT 6 bl wl at_ n v an orr co le mo.toNat nx ol))) ∧ Below w.heap.size w w' := by
  cases mo
  all_goals
    go_enter Try.func65, Try.ntmps65
    go_wp2
    all_goals
      go_ret
      refine ⟨ret_bool ?_, (Below.refl _ _).alloc (Nat.le_refl _) _⟩
      have t0 : false.toNat = 0 := rfl
      have t1 : true.toNat = 1 := rfl
      try have := bne_t (x := at_) (by assumption)
      try have := bne_f (x := at_) (by assumption)
      try have := bne_t (x := n) (by assumption)
      try have := bne_f (x := n) (by assumption)
      try have := bne_t (x := v) (by assumption)
      try have := bne_f (x := v) (by assumption)
      try have := bne_t (x := an) (by assumption)
      try have := bne_f (x := an) (by assumption)
      try have := bne_t (x := orr) (by assumption)
      try have := bne_f (x := orr) (by assumption)
      try have := bne_t (x := co) (by assumption)
      try have := bne_f (x := co) (by assumption)
      try have := bne_t (x := le) (by assumption)
      try have := bne_f (x := le) (by assumption)
      try have := bne_t (x := nx) (by assumption)
      try have := bne_f (x := nx) (by assumption)
      first
        | exact (decide_eq_false (by unfold restT; omega)).symm
        | exact (decide_eq_true (by unfold restT; omega)).symm

set_option maxRecDepth 100000 in
set_option maxHeartbeats 2000000 in
theorem rbare_15 (bl wl : Nat) (at_ n v an orr co le : Int) (mo : Bool) (nx : Int) (ol : Nat) (BA WA OA : Option Addr) (bc wc oc : Nat) (w : World) :
    Calls Try.prog 65 #[.agg #[.int .i64 15, .int .i64 0, .slice BA bl bc, .slice WA wl wc, .int .i64 at_, .int .i64 n, .int .u16 v, .int .u16 an, .int .u16 orr, .int .i64 co, .int .i64 le, .bool mo, .int .i64 nx, .slice OA ol oc]] w fun e w' => e = .returned (.bool (decide (restT 15 bl wl at_ n v an orr co le mo.toNat nx ol))) ∧ Below w.heap.size w w' := by
  cases mo
  all_goals
    go_enter Try.func65, Try.ntmps65
    go_wp2
    all_goals
      go_ret
      refine ⟨ret_bool ?_, (Below.refl _ _).alloc (Nat.le_refl _) _⟩
      have t0 : false.toNat = 0 := rfl
      have t1 : true.toNat = 1 := rfl
      try have := bne_t (x := at_) (by assumption)
      try have := bne_f (x := at_) (by assumption)
      try have := bne_t (x := n) (by assumption)
      try have := bne_f (x := n) (by assumption)
      try have := bne_t (x := v) (by assumption)
      try have := bne_f (x := v) (by assumption)
      try have := bne_t (x := an) (by assumption)
      try have := bne_f (x := an) (by assumption)
      try have := bne_t (x := orr) (by assumption)
      try have := bne_f (x := orr) (by assumption)
      try have := bne_t (x := co) (by assumption)
      try have := bne_f (x := co) (by assumption)
      try have := bne_t (x := le) (by assumption)
      try have := bne_f (x := le) (by assumption)
      try have := bne_t (x := nx) (by assumption)
      try have := bne_f (x := nx) (by assumption)
      first
        | exact (decide_eq_false (by unfold restT; omega)).symm
        | exact (decide_eq_true (by unfold restT; omega)).symm

set_option maxRecDepth 100000 in
set_option maxHeartbeats 2000000 in
theorem rbare_16 (bl wl : Nat) (at_ n v an orr co le : Int) (mo : Bool) (nx : Int) (ol : Nat) (BA WA OA : Option Addr) (bc wc oc : Nat) (w : World) :
    Calls Try.prog 65 #[.agg #[.int .i64 16, .int .i64 0, .slice BA bl bc, .slice WA wl wc, .int .i64 at_, .int .i64 n, .int .u16 v, .int .u16 an, .int .u16 orr, .int .i64 co, .int .i64 le, .bool mo, .int .i64 nx, .slice OA ol oc]] w fun e w' => e = .returned (.bool (decide (restT 16 bl wl at_ n v an orr co le mo.toNat nx ol))) ∧ Below w.heap.size w w' := by
  cases mo
  all_goals
    go_enter Try.func65, Try.ntmps65
    go_wp2
    all_goals
      go_ret
      refine ⟨ret_bool ?_, (Below.refl _ _).alloc (Nat.le_refl _) _⟩
      have t0 : false.toNat = 0 := rfl
      have t1 : true.toNat = 1 := rfl
      try have := bne_t (x := at_) (by assumption)
      try have := bne_f (x := at_) (by assumption)
      try have := bne_t (x := n) (by assumption)
      try have := bne_f (x := n) (by assumption)
      try have := bne_t (x := v) (by assumption)
      try have := bne_f (x := v) (by assumption)
      try have := bne_t (x := an) (by assumption)
      try have := bne_f (x := an) (by assumption)
      try have := bne_t (x := orr) (by assumption)
      try have := bne_f (x := orr) (by assumption)
      try have := bne_t (x := co) (by assumption)
      try have := bne_f (x := co) (by assumption)
      try have := bne_t (x := le) (by assumption)
      try have := bne_f (x := le) (by assumption)
      try have := bne_t (x := nx) (by assumption)
      try have := bne_f (x := nx) (by assumption)
      first
        | exact (decide_eq_false (by unfold restT; omega)).symm
        | exact (decide_eq_true (by unfold restT; omega)).symm

set_option maxRecDepth 100000 in
set_option maxHeartbeats 2000000 in
theorem rbare_22 (bl wl : Nat) (at_ n v an orr co le : Int) (mo : Bool) (nx : Int) (ol : Nat) (BA WA OA : Option Addr) (bc wc oc : Nat) (w : World) :
    Calls Try.prog 65 #[.agg #[.int .i64 22, .int .i64 0, .slice BA bl bc, .slice WA wl wc, .int .i64 at_, .int .i64 n, .int .u16 v, .int .u16 an, .int .u16 orr, .int .i64 co, .int .i64 le, .bool mo, .int .i64 nx, .slice OA ol oc]] w fun e w' => e = .returned (.bool (decide (restT 22 bl wl at_ n v an orr co le mo.toNat nx ol))) ∧ Below w.heap.size w w' := by
  cases mo
  all_goals
    go_enter Try.func65, Try.ntmps65
    go_wp2
    all_goals
      go_ret
      refine ⟨ret_bool ?_, (Below.refl _ _).alloc (Nat.le_refl _) _⟩
      have t0 : false.toNat = 0 := rfl
      have t1 : true.toNat = 1 := rfl
      try have := bne_t (x := at_) (by assumption)
      try have := bne_f (x := at_) (by assumption)
      try have := bne_t (x := n) (by assumption)
      try have := bne_f (x := n) (by assumption)
      try have := bne_t (x := v) (by assumption)
      try have := bne_f (x := v) (by assumption)
      try have := bne_t (x := an) (by assumption)
      try have := bne_f (x := an) (by assumption)
      try have := bne_t (x := orr) (by assumption)
      try have := bne_f (x := orr) (by assumption)
      try have := bne_t (x := co) (by assumption)
      try have := bne_f (x := co) (by assumption)
      try have := bne_t (x := le) (by assumption)
      try have := bne_f (x := le) (by assumption)
      try have := bne_t (x := nx) (by assumption)
      try have := bne_f (x := nx) (by assumption)
      first
        | exact (decide_eq_false (by unfold restT; omega)).symm
        | exact (decide_eq_true (by unfold restT; omega)).symm

set_option maxRecDepth 100000 in
set_option maxHeartbeats 2000000 in
theorem rbare_23 (bl wl : Nat) (at_ n v an orr co le : Int) (mo : Bool) (nx : Int) (ol : Nat) (BA WA OA : Option Addr) (bc wc oc : Nat) (w : World) :
    Calls Try.prog 65 #[.agg #[.int .i64 23, .int .i64 0, .slice BA bl bc, .slice WA wl wc, .int .i64 at_, .int .i64 n, .int .u16 v, .int .u16 an, .int .u16 orr, .int .i64 co, .int .i64 le, .bool mo, .int .i64 nx, .slice OA ol oc]] w fun e w' => e = .returned (.bool (decide (restT 23 bl wl at_ n v an orr co le mo.toNat nx ol))) ∧ Below w.heap.size w w' := by
  cases mo
  all_goals
    go_enter Try.func65, Try.ntmps65
    go_wp2
    all_goals
      go_ret
      refine ⟨ret_bool ?_, (Below.refl _ _).alloc (Nat.le_refl _) _⟩
      have t0 : false.toNat = 0 := rfl
      have t1 : true.toNat = 1 := rfl
      try have := bne_t (x := at_) (by assumption)
      try have := bne_f (x := at_) (by assumption)
      try have := bne_t (x := n) (by assumption)
      try have := bne_f (x := n) (by assumption)
      try have := bne_t (x := v) (by assumption)
      try have := bne_f (x := v) (by assumption)
      try have := bne_t (x := an) (by assumption)
      try have := bne_f (x := an) (by assumption)
      try have := bne_t (x := orr) (by assumption)
      try have := bne_f (x := orr) (by assumption)
      try have := bne_t (x := co) (by assumption)
      try have := bne_f (x := co) (by assumption)
      try have := bne_t (x := le) (by assumption)
      try have := bne_f (x := le) (by assumption)
      try have := bne_t (x := nx) (by assumption)
      try have := bne_f (x := nx) (by assumption)
      first
        | exact (decide_eq_false (by unfold restT; omega)).symm
        | exact (decide_eq_true (by unfold restT; omega)).symm

set_option maxRecDepth 100000 in
set_option maxHeartbeats 2000000 in
theorem rbare_43 (bl wl : Nat) (at_ n v an orr co le : Int) (mo : Bool) (nx : Int) (ol : Nat) (BA WA OA : Option Addr) (bc wc oc : Nat) (w : World) :
    Calls Try.prog 65 #[.agg #[.int .i64 43, .int .i64 0, .slice BA bl bc, .slice WA wl wc, .int .i64 at_, .int .i64 n, .int .u16 v, .int .u16 an, .int .u16 orr, .int .i64 co, .int .i64 le, .bool mo, .int .i64 nx, .slice OA ol oc]] w fun e w' => e = .returned (.bool (decide (restT 43 bl wl at_ n v an orr co le mo.toNat nx ol))) ∧ Below w.heap.size w w' := by
  cases mo
  all_goals
    go_enter Try.func65, Try.ntmps65
    go_wp2
    all_goals
      go_ret
      refine ⟨ret_bool ?_, (Below.refl _ _).alloc (Nat.le_refl _) _⟩
      have t0 : false.toNat = 0 := rfl
      have t1 : true.toNat = 1 := rfl
      try have := bne_t (x := at_) (by assumption)
      try have := bne_f (x := at_) (by assumption)
      try have := bne_t (x := n) (by assumption)
      try have := bne_f (x := n) (by assumption)
      try have := bne_t (x := v) (by assumption)
      try have := bne_f (x := v) (by assumption)
      try have := bne_t (x := an) (by assumption)
      try have := bne_f (x := an) (by assumption)
      try have := bne_t (x := orr) (by assumption)
      try have := bne_f (x := orr) (by assumption)
      try have := bne_t (x := co) (by assumption)
      try have := bne_f (x := co) (by assumption)
      try have := bne_t (x := le) (by assumption)
      try have := bne_f (x := le) (by assumption)
      try have := bne_t (x := nx) (by assumption)
      try have := bne_f (x := nx) (by assumption)
      first
        | exact (decide_eq_false (by unfold restT; omega)).symm
        | exact (decide_eq_true (by unfold restT; omega)).symm

set_option maxRecDepth 100000 in
set_option maxHeartbeats 2000000 in
theorem rbare_no (fn : Int) (h : NoFn fn) (bl wl : Nat) (at_ n v an orr co le : Int) (mo : Bool) (nx : Int) (ol : Nat) (BA WA OA : Option Addr) (bc wc oc : Nat) (w : World) :
    Calls Try.prog 65 #[.agg #[.int .i64 fn, .int .i64 0, .slice BA bl bc, .slice WA wl wc, .int .i64 at_, .int .i64 n, .int .u16 v, .int .u16 an, .int .u16 orr, .int .i64 co, .int .i64 le, .bool mo, .int .i64 nx, .slice OA ol oc]] w fun e w' => (∃ b : Bool, e = .returned (.bool b)) ∧ Below w.heap.size w w' := by
  have n1 : ¬ fn = 1 := h.h1
  have n2 : ¬ fn = 2 := h.h2
  have n3 : ¬ fn = 3 := h.h3
  have n4 : ¬ fn = 4 := h.h4
  have n5 : ¬ fn = 5 := h.h5
  have n6 : ¬ fn = 6 := h.h6
  have n15 : ¬ fn = 15 := h.h15
  have n16 : ¬ fn = 16 := h.h16
  have n22 : ¬ fn = 22 := h.h22
  have n23 : ¬ fn = 23 := h.h23
  have n43 : ¬ fn = 43 := h.h43
  have m1 : (fn == 1) = false := by simpa using n1
  have m2 : (fn == 2) = false := by simpa using n2
  have m3 : (fn == 3) = false := by simpa using n3
  have m4 : (fn == 4) = false := by simpa using n4
  have m5 : (fn == 5) = false := by simpa using n5
  have m6 : (fn == 6) = false := by simpa using n6
  have m15 : (fn == 15) = false := by simpa using n15
  have m16 : (fn == 16) = false := by simpa using n16
  have m22 : (fn == 22) = false := by simpa using n22
  have m23 : (fn == 23) = false := by simpa using n23
  have m43 : (fn == 43) = false := by simpa using n43
  cases mo
  all_goals
    go_enter Try.func65, Try.ntmps65
    go_wp2
    all_goals
      go_ret
      exact ⟨⟨_, rfl⟩, (Below.refl _ _).alloc (Nat.le_refl _) _⟩

set_option maxRecDepth 100000 in
set_option maxHeartbeats 2000000 in
theorem rbare_exc (fn ex : Int) (hx : ex ≠ 0) (bl wl : Nat) (at_ n v an orr co le : Int) (mo : Bool) (nx : Int) (ol : Nat) (BA WA OA : Option Addr) (bc wc oc : Nat) (w : World) :
    Calls Try.prog 65 #[.agg #[.int .i64 fn, .int .i64 ex, .slice BA bl bc, .slice WA wl wc, .int .i64 at_, .int .i64 n, .int .u16 v, .int .u16 an, .int .u16 orr, .int .i64 co, .int .i64 le, .bool mo, .int .i64 nx, .slice OA ol oc]] w fun e w' => e = .returned (.bool (decide (zeroT bl wl at_ n v an orr co le mo.toNat nx ol))) ∧ Below w.heap.size w w' := by
  have hx2 : (ex != 0) = true := by simpa using hx
  cases mo
  all_goals
    go_enter Try.func65, Try.ntmps65
    go_wp2
    all_goals
      go_ret
      refine ⟨ret_bool ?_, (Below.refl _ _).alloc (Nat.le_refl _) _⟩
      have t0 : false.toNat = 0 := rfl
      have t1 : true.toNat = 1 := rfl
      try have := bne_t (x := at_) (by assumption)
      try have := bne_f (x := at_) (by assumption)
      try have := bne_t (x := n) (by assumption)
      try have := bne_f (x := n) (by assumption)
      try have := bne_t (x := v) (by assumption)
      try have := bne_f (x := v) (by assumption)
      try have := bne_t (x := an) (by assumption)
      try have := bne_f (x := an) (by assumption)
      try have := bne_t (x := orr) (by assumption)
      try have := bne_f (x := orr) (by assumption)
      try have := bne_t (x := co) (by assumption)
      try have := bne_f (x := co) (by assumption)
      try have := bne_t (x := le) (by assumption)
      try have := bne_f (x := le) (by assumption)
      try have := bne_t (x := nx) (by assumption)
      try have := bne_f (x := nx) (by assumption)
      first
        | exact (decide_eq_false (by unfold zeroT; omega)).symm
        | exact (decide_eq_true (by unfold zeroT; omega)).symm

end Go.Proofs.Ytielfekkonflfaa

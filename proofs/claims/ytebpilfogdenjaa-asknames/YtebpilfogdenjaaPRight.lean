/- Package ask: numbered, bare, Right. -/
import Derived.Test.YtebpilfogdenjaaPOr
import Derived.Test.YtebpilfogdenjaaAskWhole
namespace Go.Proofs.Ytebpilfogdenjaa
open Go.ChangeShapes Go.WideShapes Go.ChangeAt Go.RowKit
set_option linter.unusedVariables false
set_option linter.unusedSimpArgs false

set_option maxHeartbeats 1000000 in
theorem pnum_1 (at_ n v an orr : Int) (bl wl : Nat) (ra rn co ob : Int) (BA WA : Option Addr) (bc wc : Nat) (w : World) (b : Bool) (hb : decide (fitsP 1 at_ n v an orr bl wl ra rn co ob) = b) :
    Calls Try.prog 38 #[.agg #[.int .i64 1, .int .i64 at_, .int .i64 n, .int .u16 v, .int .u16 an, .int .u16 orr, .slice BA bl bc, .slice WA wl wc, .int .i64 ra, .int .i64 rn, .int .i64 co, .int .i64 ob]] w fun e w' => e = .returned (.bool b) ∧ Below w.heap.size w w' := by
  have HB := Lib.hid hb
  clear hb
  have HM1 : Hid (kMostR 1 = 2000) := rfl
  have HM2 : Hid (kMostW 1 = 0) := rfl
  obtain ⟨hc, hHC⟩ : ∃ c, decide (1 ≤ n ∧ n ≤ 2000) = c := ⟨_, rfl⟩
  have HC := Lib.hid hHC
  clear hHC
  cases hc
  all_goals
    go_enter Try.func38, Try.ntmps38
    go_wp2_with (first
      | (go_at_call 56; refine (pmost_lit 1 2000 0 _ HM1.out HM2.out).mono ?_; rintro e w' ⟨rfl, rfl⟩)
      | (go_at_call 57; (with_reducible refine (pwithin_lit n 2000 _ _ HC.out).mono ?_); rintro e w' ⟨rfl, rfl⟩))
    all_goals
      go_ret
      refine ⟨ret_bool ?_, (Below.refl _ _).alloc (Nat.le_refl _) _⟩
      rw [← HB.out]
      have m1 := HM1.out
      have m2 := HM2.out
      have qhc := HC.out
      simp only [decide_eq_true_eq, decide_eq_false_iff_not] at qhc
      first
        | exact (decide_eq_false (by unfold fitsP; omega)).symm
        | exact (decide_eq_true (by unfold fitsP; omega)).symm
        | (rw [Bool.eq_iff_iff]; simp only [decide_eq_true_eq, beq_iff_eq, Bool.and_eq_true]; unfold fitsP; omega)

set_option maxHeartbeats 1000000 in
theorem pnum_2 (at_ n v an orr : Int) (bl wl : Nat) (ra rn co ob : Int) (BA WA : Option Addr) (bc wc : Nat) (w : World) (b : Bool) (hb : decide (fitsP 2 at_ n v an orr bl wl ra rn co ob) = b) :
    Calls Try.prog 38 #[.agg #[.int .i64 2, .int .i64 at_, .int .i64 n, .int .u16 v, .int .u16 an, .int .u16 orr, .slice BA bl bc, .slice WA wl wc, .int .i64 ra, .int .i64 rn, .int .i64 co, .int .i64 ob]] w fun e w' => e = .returned (.bool b) ∧ Below w.heap.size w w' := by
  have HB := Lib.hid hb
  clear hb
  have HM1 : Hid (kMostR 2 = 2000) := rfl
  have HM2 : Hid (kMostW 2 = 0) := rfl
  obtain ⟨hc, hHC⟩ : ∃ c, decide (1 ≤ n ∧ n ≤ 2000) = c := ⟨_, rfl⟩
  have HC := Lib.hid hHC
  clear hHC
  cases hc
  all_goals
    go_enter Try.func38, Try.ntmps38
    go_wp2_with (first
      | (go_at_call 56; refine (pmost_lit 2 2000 0 _ HM1.out HM2.out).mono ?_; rintro e w' ⟨rfl, rfl⟩)
      | (go_at_call 57; (with_reducible refine (pwithin_lit n 2000 _ _ HC.out).mono ?_); rintro e w' ⟨rfl, rfl⟩))
    all_goals
      go_ret
      refine ⟨ret_bool ?_, (Below.refl _ _).alloc (Nat.le_refl _) _⟩
      rw [← HB.out]
      have m1 := HM1.out
      have m2 := HM2.out
      have qhc := HC.out
      simp only [decide_eq_true_eq, decide_eq_false_iff_not] at qhc
      first
        | exact (decide_eq_false (by unfold fitsP; omega)).symm
        | exact (decide_eq_true (by unfold fitsP; omega)).symm
        | (rw [Bool.eq_iff_iff]; simp only [decide_eq_true_eq, beq_iff_eq, Bool.and_eq_true]; unfold fitsP; omega)

set_option maxHeartbeats 1000000 in
theorem pnum_3 (at_ n v an orr : Int) (bl wl : Nat) (ra rn co ob : Int) (BA WA : Option Addr) (bc wc : Nat) (w : World) (b : Bool) (hb : decide (fitsP 3 at_ n v an orr bl wl ra rn co ob) = b) :
    Calls Try.prog 38 #[.agg #[.int .i64 3, .int .i64 at_, .int .i64 n, .int .u16 v, .int .u16 an, .int .u16 orr, .slice BA bl bc, .slice WA wl wc, .int .i64 ra, .int .i64 rn, .int .i64 co, .int .i64 ob]] w fun e w' => e = .returned (.bool b) ∧ Below w.heap.size w w' := by
  have HB := Lib.hid hb
  clear hb
  have HM1 : Hid (kMostR 3 = 125) := rfl
  have HM2 : Hid (kMostW 3 = 0) := rfl
  obtain ⟨hc, hHC⟩ : ∃ c, decide (1 ≤ n ∧ n ≤ 125) = c := ⟨_, rfl⟩
  have HC := Lib.hid hHC
  clear hHC
  cases hc
  all_goals
    go_enter Try.func38, Try.ntmps38
    go_wp2_with (first
      | (go_at_call 56; refine (pmost_lit 3 125 0 _ HM1.out HM2.out).mono ?_; rintro e w' ⟨rfl, rfl⟩)
      | (go_at_call 57; (with_reducible refine (pwithin_lit n 125 _ _ HC.out).mono ?_); rintro e w' ⟨rfl, rfl⟩))
    all_goals
      go_ret
      refine ⟨ret_bool ?_, (Below.refl _ _).alloc (Nat.le_refl _) _⟩
      rw [← HB.out]
      have m1 := HM1.out
      have m2 := HM2.out
      have qhc := HC.out
      simp only [decide_eq_true_eq, decide_eq_false_iff_not] at qhc
      first
        | exact (decide_eq_false (by unfold fitsP; omega)).symm
        | exact (decide_eq_true (by unfold fitsP; omega)).symm
        | (rw [Bool.eq_iff_iff]; simp only [decide_eq_true_eq, beq_iff_eq, Bool.and_eq_true]; unfold fitsP; omega)

set_option maxHeartbeats 1000000 in
theorem pnum_4 (at_ n v an orr : Int) (bl wl : Nat) (ra rn co ob : Int) (BA WA : Option Addr) (bc wc : Nat) (w : World) (b : Bool) (hb : decide (fitsP 4 at_ n v an orr bl wl ra rn co ob) = b) :
    Calls Try.prog 38 #[.agg #[.int .i64 4, .int .i64 at_, .int .i64 n, .int .u16 v, .int .u16 an, .int .u16 orr, .slice BA bl bc, .slice WA wl wc, .int .i64 ra, .int .i64 rn, .int .i64 co, .int .i64 ob]] w fun e w' => e = .returned (.bool b) ∧ Below w.heap.size w w' := by
  have HB := Lib.hid hb
  clear hb
  have HM1 : Hid (kMostR 4 = 125) := rfl
  have HM2 : Hid (kMostW 4 = 0) := rfl
  obtain ⟨hc, hHC⟩ : ∃ c, decide (1 ≤ n ∧ n ≤ 125) = c := ⟨_, rfl⟩
  have HC := Lib.hid hHC
  clear hHC
  cases hc
  all_goals
    go_enter Try.func38, Try.ntmps38
    go_wp2_with (first
      | (go_at_call 56; refine (pmost_lit 4 125 0 _ HM1.out HM2.out).mono ?_; rintro e w' ⟨rfl, rfl⟩)
      | (go_at_call 57; (with_reducible refine (pwithin_lit n 125 _ _ HC.out).mono ?_); rintro e w' ⟨rfl, rfl⟩))
    all_goals
      go_ret
      refine ⟨ret_bool ?_, (Below.refl _ _).alloc (Nat.le_refl _) _⟩
      rw [← HB.out]
      have m1 := HM1.out
      have m2 := HM2.out
      have qhc := HC.out
      simp only [decide_eq_true_eq, decide_eq_false_iff_not] at qhc
      first
        | exact (decide_eq_false (by unfold fitsP; omega)).symm
        | exact (decide_eq_true (by unfold fitsP; omega)).symm
        | (rw [Bool.eq_iff_iff]; simp only [decide_eq_true_eq, beq_iff_eq, Bool.and_eq_true]; unfold fitsP; omega)

set_option maxHeartbeats 1000000 in
theorem pnum_5 (at_ n v an orr : Int) (bl wl : Nat) (ra rn co ob : Int) (BA WA : Option Addr) (bc wc : Nat) (w : World) (b : Bool) (hb : decide (fitsP 5 at_ n v an orr bl wl ra rn co ob) = b) :
    Calls Try.prog 38 #[.agg #[.int .i64 5, .int .i64 at_, .int .i64 n, .int .u16 v, .int .u16 an, .int .u16 orr, .slice BA bl bc, .slice WA wl wc, .int .i64 ra, .int .i64 rn, .int .i64 co, .int .i64 ob]] w fun e w' => e = .returned (.bool b) ∧ Below w.heap.size w w' := by
  have HB := Lib.hid hb
  clear hb
  have HM1 : Hid (kMostR 5 = 0) := rfl
  have HM2 : Hid (kMostW 5 = 1) := rfl
  go_enter Try.func38, Try.ntmps38
  go_wp2_with (first
    | (go_at_call 56; refine (pmost_lit 5 0 1 _ HM1.out HM2.out).mono ?_; rintro e w' ⟨rfl, rfl⟩))
  all_goals
    go_ret
    refine ⟨ret_bool ?_, (Below.refl _ _).alloc (Nat.le_refl _) _⟩
    rw [← HB.out]
    have m1 := HM1.out
    have m2 := HM2.out
    first
      | exact (decide_eq_false (by unfold fitsP; omega)).symm
      | exact (decide_eq_true (by unfold fitsP; omega)).symm
      | (rw [Bool.eq_iff_iff]; simp only [decide_eq_true_eq, beq_iff_eq, Bool.and_eq_true]; unfold fitsP; omega)

set_option maxHeartbeats 1000000 in
theorem pnum_6 (at_ n v an orr : Int) (bl wl : Nat) (ra rn co ob : Int) (BA WA : Option Addr) (bc wc : Nat) (w : World) (b : Bool) (hb : decide (fitsP 6 at_ n v an orr bl wl ra rn co ob) = b) :
    Calls Try.prog 38 #[.agg #[.int .i64 6, .int .i64 at_, .int .i64 n, .int .u16 v, .int .u16 an, .int .u16 orr, .slice BA bl bc, .slice WA wl wc, .int .i64 ra, .int .i64 rn, .int .i64 co, .int .i64 ob]] w fun e w' => e = .returned (.bool b) ∧ Below w.heap.size w w' := by
  have HB := Lib.hid hb
  clear hb
  have HM1 : Hid (kMostR 6 = 0) := rfl
  have HM2 : Hid (kMostW 6 = 1) := rfl
  go_enter Try.func38, Try.ntmps38
  go_wp2_with (first
    | (go_at_call 56; refine (pmost_lit 6 0 1 _ HM1.out HM2.out).mono ?_; rintro e w' ⟨rfl, rfl⟩))
  all_goals
    go_ret
    refine ⟨ret_bool ?_, (Below.refl _ _).alloc (Nat.le_refl _) _⟩
    rw [← HB.out]
    have m1 := HM1.out
    have m2 := HM2.out
    first
      | exact (decide_eq_false (by unfold fitsP; omega)).symm
      | exact (decide_eq_true (by unfold fitsP; omega)).symm
      | (rw [Bool.eq_iff_iff]; simp only [decide_eq_true_eq, beq_iff_eq, Bool.and_eq_true]; unfold fitsP; omega)

set_option maxHeartbeats 1000000 in
theorem pnum_15 (at_ n v an orr : Int) (bl wl : Nat) (ra rn co ob : Int) (BA WA : Option Addr) (bc wc : Nat) (w : World) (b : Bool) (hb : decide (fitsP 15 at_ n v an orr bl wl ra rn co ob) = b) :
    Calls Try.prog 38 #[.agg #[.int .i64 15, .int .i64 at_, .int .i64 n, .int .u16 v, .int .u16 an, .int .u16 orr, .slice BA bl bc, .slice WA wl wc, .int .i64 ra, .int .i64 rn, .int .i64 co, .int .i64 ob]] w fun e w' => e = .returned (.bool b) ∧ Below w.heap.size w w' := by
  have HB := Lib.hid hb
  clear hb
  have HM1 : Hid (kMostR 15 = 0) := rfl
  have HM2 : Hid (kMostW 15 = 1968) := rfl
  obtain ⟨hc, hHC⟩ : ∃ c, decide (1 ≤ n ∧ n ≤ 1968) = c := ⟨_, rfl⟩
  have HC := Lib.hid hHC
  clear hHC
  cases hc
  all_goals
    go_enter Try.func38, Try.ntmps38
    go_wp2_with (first
      | (go_at_call 56; refine (pmost_lit 15 0 1968 _ HM1.out HM2.out).mono ?_; rintro e w' ⟨rfl, rfl⟩)
      | (go_at_call 57; (with_reducible refine (pwithin_lit n 1968 _ _ HC.out).mono ?_); rintro e w' ⟨rfl, rfl⟩))
    all_goals
      go_ret
      refine ⟨ret_bool ?_, (Below.refl _ _).alloc (Nat.le_refl _) _⟩
      rw [← HB.out]
      have m1 := HM1.out
      have m2 := HM2.out
      have qhc := HC.out
      simp only [decide_eq_true_eq, decide_eq_false_iff_not] at qhc
      first
        | exact (decide_eq_false (by unfold fitsP; omega)).symm
        | exact (decide_eq_true (by unfold fitsP; omega)).symm
        | (rw [Bool.eq_iff_iff]; simp only [decide_eq_true_eq, beq_iff_eq, Bool.and_eq_true]; unfold fitsP; omega)

set_option maxHeartbeats 1000000 in
theorem pnum_16 (at_ n v an orr : Int) (bl wl : Nat) (ra rn co ob : Int) (BA WA : Option Addr) (bc wc : Nat) (w : World) (b : Bool) (hb : decide (fitsP 16 at_ n v an orr bl wl ra rn co ob) = b) :
    Calls Try.prog 38 #[.agg #[.int .i64 16, .int .i64 at_, .int .i64 n, .int .u16 v, .int .u16 an, .int .u16 orr, .slice BA bl bc, .slice WA wl wc, .int .i64 ra, .int .i64 rn, .int .i64 co, .int .i64 ob]] w fun e w' => e = .returned (.bool b) ∧ Below w.heap.size w w' := by
  have HB := Lib.hid hb
  clear hb
  have HM1 : Hid (kMostR 16 = 0) := rfl
  have HM2 : Hid (kMostW 16 = 123) := rfl
  obtain ⟨hc, hHC⟩ : ∃ c, decide (1 ≤ n ∧ n ≤ 123) = c := ⟨_, rfl⟩
  have HC := Lib.hid hHC
  clear hHC
  cases hc
  all_goals
    go_enter Try.func38, Try.ntmps38
    go_wp2_with (first
      | (go_at_call 56; refine (pmost_lit 16 0 123 _ HM1.out HM2.out).mono ?_; rintro e w' ⟨rfl, rfl⟩)
      | (go_at_call 57; (with_reducible refine (pwithin_lit n 123 _ _ HC.out).mono ?_); rintro e w' ⟨rfl, rfl⟩))
    all_goals
      go_ret
      refine ⟨ret_bool ?_, (Below.refl _ _).alloc (Nat.le_refl _) _⟩
      rw [← HB.out]
      have m1 := HM1.out
      have m2 := HM2.out
      have qhc := HC.out
      simp only [decide_eq_true_eq, decide_eq_false_iff_not] at qhc
      first
        | exact (decide_eq_false (by unfold fitsP; omega)).symm
        | exact (decide_eq_true (by unfold fitsP; omega)).symm
        | (rw [Bool.eq_iff_iff]; simp only [decide_eq_true_eq, beq_iff_eq, Bool.and_eq_true]; unfold fitsP; omega)

set_option maxHeartbeats 1000000 in
theorem pnum_22 (at_ n v an orr : Int) (bl wl : Nat) (ra rn co ob : Int) (BA WA : Option Addr) (bc wc : Nat) (w : World) (b : Bool) (hb : decide (fitsP 22 at_ n v an orr bl wl ra rn co ob) = b) :
    Calls Try.prog 38 #[.agg #[.int .i64 22, .int .i64 at_, .int .i64 n, .int .u16 v, .int .u16 an, .int .u16 orr, .slice BA bl bc, .slice WA wl wc, .int .i64 ra, .int .i64 rn, .int .i64 co, .int .i64 ob]] w fun e w' => e = .returned (.bool b) ∧ Below w.heap.size w w' := by
  have HB := Lib.hid hb
  clear hb
  have HM1 : Hid (kMostR 22 = 0) := rfl
  have HM2 : Hid (kMostW 22 = 1) := rfl
  go_enter Try.func38, Try.ntmps38
  go_wp2_with (first
    | (go_at_call 56; refine (pmost_lit 22 0 1 _ HM1.out HM2.out).mono ?_; rintro e w' ⟨rfl, rfl⟩))
  all_goals
    go_ret
    refine ⟨ret_bool ?_, (Below.refl _ _).alloc (Nat.le_refl _) _⟩
    rw [← HB.out]
    have m1 := HM1.out
    have m2 := HM2.out
    first
      | exact (decide_eq_false (by unfold fitsP; omega)).symm
      | exact (decide_eq_true (by unfold fitsP; omega)).symm
      | (rw [Bool.eq_iff_iff]; simp only [decide_eq_true_eq, beq_iff_eq, Bool.and_eq_true]; unfold fitsP; omega)

set_option maxHeartbeats 1000000 in
theorem pnum_23 (at_ n v an orr : Int) (bl wl : Nat) (ra rn co ob : Int) (BA WA : Option Addr) (bc wc : Nat) (w : World) (b : Bool) (hb : decide (fitsP 23 at_ n v an orr bl wl ra rn co ob) = b) :
    Calls Try.prog 38 #[.agg #[.int .i64 23, .int .i64 at_, .int .i64 n, .int .u16 v, .int .u16 an, .int .u16 orr, .slice BA bl bc, .slice WA wl wc, .int .i64 ra, .int .i64 rn, .int .i64 co, .int .i64 ob]] w fun e w' => e = .returned (.bool b) ∧ Below w.heap.size w w' := by
  have HB := Lib.hid hb
  clear hb
  have HM1 : Hid (kMostR 23 = 125) := rfl
  have HM2 : Hid (kMostW 23 = 121) := rfl
  obtain ⟨hc, hHC⟩ : ∃ c, decide (1 ≤ rn ∧ rn ≤ 125) = c := ⟨_, rfl⟩
  have HC := Lib.hid hHC
  clear hHC
  obtain ⟨hd, hHD⟩ : ∃ c, decide (1 ≤ n ∧ n ≤ 121) = c := ⟨_, rfl⟩
  have HD := Lib.hid hHD
  clear hHD
  cases hc <;> cases hd
  all_goals
    go_enter Try.func38, Try.ntmps38
    go_wp2_with (first
      | (go_at_call 56; refine (pmost_lit 23 125 121 _ HM1.out HM2.out).mono ?_; rintro e w' ⟨rfl, rfl⟩)
      | (go_at_call 57; (with_reducible refine (pwithin_lit rn 125 _ _ HC.out).mono ?_); rintro e w' ⟨rfl, rfl⟩)
      | (go_at_call 57; (with_reducible refine (pwithin_lit n 121 _ _ HD.out).mono ?_); rintro e w' ⟨rfl, rfl⟩))
    all_goals
      go_ret
      refine ⟨ret_bool ?_, (Below.refl _ _).alloc (Nat.le_refl _) _⟩
      rw [← HB.out]
      have m1 := HM1.out
      have m2 := HM2.out
      have qhc := HC.out
      simp only [decide_eq_true_eq, decide_eq_false_iff_not] at qhc
      have qhd := HD.out
      simp only [decide_eq_true_eq, decide_eq_false_iff_not] at qhd
      first
        | exact (decide_eq_false (by unfold fitsP; omega)).symm
        | exact (decide_eq_true (by unfold fitsP; omega)).symm
        | (rw [Bool.eq_iff_iff]; simp only [decide_eq_true_eq, beq_iff_eq, Bool.and_eq_true]; unfold fitsP; omega)

set_option maxHeartbeats 1000000 in
theorem pnum_43 (at_ n v an orr : Int) (bl wl : Nat) (ra rn co ob : Int) (BA WA : Option Addr) (bc wc : Nat) (w : World) (b : Bool) (hb : decide (fitsP 43 at_ n v an orr bl wl ra rn co ob) = b) :
    Calls Try.prog 38 #[.agg #[.int .i64 43, .int .i64 at_, .int .i64 n, .int .u16 v, .int .u16 an, .int .u16 orr, .slice BA bl bc, .slice WA wl wc, .int .i64 ra, .int .i64 rn, .int .i64 co, .int .i64 ob]] w fun e w' => e = .returned (.bool b) ∧ Below w.heap.size w w' := by
  have HB := Lib.hid hb
  clear hb
  have HM1 : Hid (kMostR 43 = 0) := rfl
  have HM2 : Hid (kMostW 43 = 0) := rfl
  obtain ⟨hc, hHC⟩ : ∃ c, decide (1 ≤ co ∧ co ≤ 4) = c := ⟨_, rfl⟩
  have HC := Lib.hid hHC
  clear hHC
  obtain ⟨hd, hHD⟩ : ∃ c, decide (0 ≤ ob ∧ ob ≤ 255) = c := ⟨_, rfl⟩
  have HD := Lib.hid hHD
  clear hHD
  cases hc <;> cases hd
  all_goals
    go_enter Try.func38, Try.ntmps38
    go_wp2_with (first
      | (go_at_call 56; refine (pmost_lit 43 0 0 _ HM1.out HM2.out).mono ?_; rintro e w' ⟨rfl, rfl⟩)
      | (go_at_call 57; (with_reducible refine (pwithin_lit co 4 _ _ HC.out).mono ?_); rintro e w' ⟨rfl, rfl⟩)
      | (go_at_call 58; refine (isbyte_lit ob _ _ HD.out).mono ?_; rintro e w' ⟨rfl, rfl⟩))
    all_goals
      go_ret
      refine ⟨ret_bool ?_, (Below.refl _ _).alloc (Nat.le_refl _) _⟩
      rw [← HB.out]
      have m1 := HM1.out
      have m2 := HM2.out
      have qhc := HC.out
      simp only [decide_eq_true_eq, decide_eq_false_iff_not] at qhc
      have qhd := HD.out
      simp only [decide_eq_true_eq, decide_eq_false_iff_not] at qhd
      first
        | exact (decide_eq_false (by unfold fitsP; omega)).symm
        | exact (decide_eq_true (by unfold fitsP; omega)).symm
        | (rw [Bool.eq_iff_iff]; simp only [decide_eq_true_eq, beq_iff_eq, Bool.and_eq_true]; unfold fitsP; omega)

set_option maxHeartbeats 1000000 in
theorem pbare_1 (at_ n v an orr : Int) (bl wl : Nat) (ra rn co ob : Int) (BA WA : Option Addr) (bc wc : Nat) (w : World) (b : Bool) (hw : Wide at_ n v an orr ra rn co ob) (hb : decide (plainP 1 at_ n v an orr bl wl ra rn co ob) = b) :
    Calls Try.prog 39 #[.agg #[.int .i64 1, .int .i64 at_, .int .i64 n, .int .u16 v, .int .u16 an, .int .u16 orr, .slice BA bl bc, .slice WA wl wc, .int .i64 ra, .int .i64 rn, .int .i64 co, .int .i64 ob]] w fun e w' => e = .returned (.bool b) ∧ Below w.heap.size w w' := by
  have HB := Lib.hid hb
  have HW := Lib.hid hw
  clear hb hw
  have H6 := Lib.hid (or6 0 0 ra rn co ob (by omega) (by omega) (by omega) (by omega) HW.out.r0 HW.out.r1 HW.out.m0 HW.out.m1 HW.out.c0 HW.out.c1 HW.out.b0 HW.out.b1)
  have H3 := Lib.hid (or3 v an orr HW.out.v0 HW.out.v1 HW.out.x0 HW.out.x1 HW.out.o0 HW.out.o1)
  go_enter Try.func39, Try.ntmps39
  go_wp2
  all_goals
    go_ret
    refine ⟨ret_bool ?_, (Below.refl _ _).alloc (Nat.le_refl _) _⟩
    rw [← HB.out]
    try have o1 := H6.out.1 (by assumption)
    try have o2 := mt H6.out.2 (by assumption)
    try have o3 := H3.out.1 (by assumption)
    try have o4 := mt H3.out.2 (by assumption)
    try simp only [true_and, and_true] at o2
    try simp only [true_and, and_true] at o4
    first
      | exact (decide_eq_false (by unfold plainP; omega)).symm
      | exact (decide_eq_true (by unfold plainP; omega)).symm
      | (rw [Bool.eq_iff_iff]; simp only [decide_eq_true_eq, beq_iff_eq, Bool.and_eq_true]; unfold plainP; omega)

set_option maxHeartbeats 1000000 in
theorem pbare_2 (at_ n v an orr : Int) (bl wl : Nat) (ra rn co ob : Int) (BA WA : Option Addr) (bc wc : Nat) (w : World) (b : Bool) (hw : Wide at_ n v an orr ra rn co ob) (hb : decide (plainP 2 at_ n v an orr bl wl ra rn co ob) = b) :
    Calls Try.prog 39 #[.agg #[.int .i64 2, .int .i64 at_, .int .i64 n, .int .u16 v, .int .u16 an, .int .u16 orr, .slice BA bl bc, .slice WA wl wc, .int .i64 ra, .int .i64 rn, .int .i64 co, .int .i64 ob]] w fun e w' => e = .returned (.bool b) ∧ Below w.heap.size w w' := by
  have HB := Lib.hid hb
  have HW := Lib.hid hw
  clear hb hw
  have H6 := Lib.hid (or6 0 0 ra rn co ob (by omega) (by omega) (by omega) (by omega) HW.out.r0 HW.out.r1 HW.out.m0 HW.out.m1 HW.out.c0 HW.out.c1 HW.out.b0 HW.out.b1)
  have H3 := Lib.hid (or3 v an orr HW.out.v0 HW.out.v1 HW.out.x0 HW.out.x1 HW.out.o0 HW.out.o1)
  go_enter Try.func39, Try.ntmps39
  go_wp2
  all_goals
    go_ret
    refine ⟨ret_bool ?_, (Below.refl _ _).alloc (Nat.le_refl _) _⟩
    rw [← HB.out]
    try have o1 := H6.out.1 (by assumption)
    try have o2 := mt H6.out.2 (by assumption)
    try have o3 := H3.out.1 (by assumption)
    try have o4 := mt H3.out.2 (by assumption)
    try simp only [true_and, and_true] at o2
    try simp only [true_and, and_true] at o4
    first
      | exact (decide_eq_false (by unfold plainP; omega)).symm
      | exact (decide_eq_true (by unfold plainP; omega)).symm
      | (rw [Bool.eq_iff_iff]; simp only [decide_eq_true_eq, beq_iff_eq, Bool.and_eq_true]; unfold plainP; omega)

set_option maxHeartbeats 1000000 in
theorem pbare_3 (at_ n v an orr : Int) (bl wl : Nat) (ra rn co ob : Int) (BA WA : Option Addr) (bc wc : Nat) (w : World) (b : Bool) (hw : Wide at_ n v an orr ra rn co ob) (hb : decide (plainP 3 at_ n v an orr bl wl ra rn co ob) = b) :
    Calls Try.prog 39 #[.agg #[.int .i64 3, .int .i64 at_, .int .i64 n, .int .u16 v, .int .u16 an, .int .u16 orr, .slice BA bl bc, .slice WA wl wc, .int .i64 ra, .int .i64 rn, .int .i64 co, .int .i64 ob]] w fun e w' => e = .returned (.bool b) ∧ Below w.heap.size w w' := by
  have HB := Lib.hid hb
  have HW := Lib.hid hw
  clear hb hw
  have H6 := Lib.hid (or6 0 0 ra rn co ob (by omega) (by omega) (by omega) (by omega) HW.out.r0 HW.out.r1 HW.out.m0 HW.out.m1 HW.out.c0 HW.out.c1 HW.out.b0 HW.out.b1)
  have H3 := Lib.hid (or3 v an orr HW.out.v0 HW.out.v1 HW.out.x0 HW.out.x1 HW.out.o0 HW.out.o1)
  go_enter Try.func39, Try.ntmps39
  go_wp2
  all_goals
    go_ret
    refine ⟨ret_bool ?_, (Below.refl _ _).alloc (Nat.le_refl _) _⟩
    rw [← HB.out]
    try have o1 := H6.out.1 (by assumption)
    try have o2 := mt H6.out.2 (by assumption)
    try have o3 := H3.out.1 (by assumption)
    try have o4 := mt H3.out.2 (by assumption)
    try simp only [true_and, and_true] at o2
    try simp only [true_and, and_true] at o4
    first
      | exact (decide_eq_false (by unfold plainP; omega)).symm
      | exact (decide_eq_true (by unfold plainP; omega)).symm
      | (rw [Bool.eq_iff_iff]; simp only [decide_eq_true_eq, beq_iff_eq, Bool.and_eq_true]; unfold plainP; omega)

set_option maxHeartbeats 1000000 in
theorem pbare_4 (at_ n v an orr : Int) (bl wl : Nat) (ra rn co ob : Int) (BA WA : Option Addr) (bc wc : Nat) (w : World) (b : Bool) (hw : Wide at_ n v an orr ra rn co ob) (hb : decide (plainP 4 at_ n v an orr bl wl ra rn co ob) = b) :
    Calls Try.prog 39 #[.agg #[.int .i64 4, .int .i64 at_, .int .i64 n, .int .u16 v, .int .u16 an, .int .u16 orr, .slice BA bl bc, .slice WA wl wc, .int .i64 ra, .int .i64 rn, .int .i64 co, .int .i64 ob]] w fun e w' => e = .returned (.bool b) ∧ Below w.heap.size w w' := by
  have HB := Lib.hid hb
  have HW := Lib.hid hw
  clear hb hw
  have H6 := Lib.hid (or6 0 0 ra rn co ob (by omega) (by omega) (by omega) (by omega) HW.out.r0 HW.out.r1 HW.out.m0 HW.out.m1 HW.out.c0 HW.out.c1 HW.out.b0 HW.out.b1)
  have H3 := Lib.hid (or3 v an orr HW.out.v0 HW.out.v1 HW.out.x0 HW.out.x1 HW.out.o0 HW.out.o1)
  go_enter Try.func39, Try.ntmps39
  go_wp2
  all_goals
    go_ret
    refine ⟨ret_bool ?_, (Below.refl _ _).alloc (Nat.le_refl _) _⟩
    rw [← HB.out]
    try have o1 := H6.out.1 (by assumption)
    try have o2 := mt H6.out.2 (by assumption)
    try have o3 := H3.out.1 (by assumption)
    try have o4 := mt H3.out.2 (by assumption)
    try simp only [true_and, and_true] at o2
    try simp only [true_and, and_true] at o4
    first
      | exact (decide_eq_false (by unfold plainP; omega)).symm
      | exact (decide_eq_true (by unfold plainP; omega)).symm
      | (rw [Bool.eq_iff_iff]; simp only [decide_eq_true_eq, beq_iff_eq, Bool.and_eq_true]; unfold plainP; omega)

set_option maxHeartbeats 1000000 in
theorem pbare_5 (at_ n v an orr : Int) (bl wl : Nat) (ra rn co ob : Int) (BA WA : Option Addr) (bc wc : Nat) (w : World) (b : Bool) (hw : Wide at_ n v an orr ra rn co ob) (hb : decide (plainP 5 at_ n v an orr bl wl ra rn co ob) = b) :
    Calls Try.prog 39 #[.agg #[.int .i64 5, .int .i64 at_, .int .i64 n, .int .u16 v, .int .u16 an, .int .u16 orr, .slice BA bl bc, .slice WA wl wc, .int .i64 ra, .int .i64 rn, .int .i64 co, .int .i64 ob]] w fun e w' => e = .returned (.bool b) ∧ Below w.heap.size w w' := by
  have HB := Lib.hid hb
  have HW := Lib.hid hw
  clear hb hw
  have H6 := Lib.hid (or6 0 n ra rn co ob (by omega) (by omega) HW.out.n0 HW.out.n1 HW.out.r0 HW.out.r1 HW.out.m0 HW.out.m1 HW.out.c0 HW.out.c1 HW.out.b0 HW.out.b1)
  have H3 := Lib.hid (or3 0 an orr (by omega) (by omega) HW.out.x0 HW.out.x1 HW.out.o0 HW.out.o1)
  go_enter Try.func39, Try.ntmps39
  go_wp2
  all_goals
    go_ret
    refine ⟨ret_bool ?_, (Below.refl _ _).alloc (Nat.le_refl _) _⟩
    rw [← HB.out]
    try have o1 := H6.out.1 (by assumption)
    try have o2 := mt H6.out.2 (by assumption)
    try have o3 := H3.out.1 (by assumption)
    try have o4 := mt H3.out.2 (by assumption)
    try simp only [true_and, and_true] at o2
    try simp only [true_and, and_true] at o4
    first
      | exact (decide_eq_false (by unfold plainP; omega)).symm
      | exact (decide_eq_true (by unfold plainP; omega)).symm
      | (rw [Bool.eq_iff_iff]; simp only [decide_eq_true_eq, beq_iff_eq, Bool.and_eq_true]; unfold plainP; omega)

set_option maxHeartbeats 1000000 in
theorem pbare_6 (at_ n v an orr : Int) (bl wl : Nat) (ra rn co ob : Int) (BA WA : Option Addr) (bc wc : Nat) (w : World) (b : Bool) (hw : Wide at_ n v an orr ra rn co ob) (hb : decide (plainP 6 at_ n v an orr bl wl ra rn co ob) = b) :
    Calls Try.prog 39 #[.agg #[.int .i64 6, .int .i64 at_, .int .i64 n, .int .u16 v, .int .u16 an, .int .u16 orr, .slice BA bl bc, .slice WA wl wc, .int .i64 ra, .int .i64 rn, .int .i64 co, .int .i64 ob]] w fun e w' => e = .returned (.bool b) ∧ Below w.heap.size w w' := by
  have HB := Lib.hid hb
  have HW := Lib.hid hw
  clear hb hw
  have H6 := Lib.hid (or6 0 n ra rn co ob (by omega) (by omega) HW.out.n0 HW.out.n1 HW.out.r0 HW.out.r1 HW.out.m0 HW.out.m1 HW.out.c0 HW.out.c1 HW.out.b0 HW.out.b1)
  have H3 := Lib.hid (or3 0 an orr (by omega) (by omega) HW.out.x0 HW.out.x1 HW.out.o0 HW.out.o1)
  go_enter Try.func39, Try.ntmps39
  go_wp2
  all_goals
    go_ret
    refine ⟨ret_bool ?_, (Below.refl _ _).alloc (Nat.le_refl _) _⟩
    rw [← HB.out]
    try have o1 := H6.out.1 (by assumption)
    try have o2 := mt H6.out.2 (by assumption)
    try have o3 := H3.out.1 (by assumption)
    try have o4 := mt H3.out.2 (by assumption)
    try simp only [true_and, and_true] at o2
    try simp only [true_and, and_true] at o4
    first
      | exact (decide_eq_false (by unfold plainP; omega)).symm
      | exact (decide_eq_true (by unfold plainP; omega)).symm
      | (rw [Bool.eq_iff_iff]; simp only [decide_eq_true_eq, beq_iff_eq, Bool.and_eq_true]; unfold plainP; omega)

set_option maxHeartbeats 1000000 in
theorem pbare_15 (at_ n v an orr : Int) (bl wl : Nat) (ra rn co ob : Int) (BA WA : Option Addr) (bc wc : Nat) (w : World) (b : Bool) (hw : Wide at_ n v an orr ra rn co ob) (hb : decide (plainP 15 at_ n v an orr bl wl ra rn co ob) = b) :
    Calls Try.prog 39 #[.agg #[.int .i64 15, .int .i64 at_, .int .i64 n, .int .u16 v, .int .u16 an, .int .u16 orr, .slice BA bl bc, .slice WA wl wc, .int .i64 ra, .int .i64 rn, .int .i64 co, .int .i64 ob]] w fun e w' => e = .returned (.bool b) ∧ Below w.heap.size w w' := by
  have HB := Lib.hid hb
  have HW := Lib.hid hw
  clear hb hw
  have H6 := Lib.hid (or6 0 0 ra rn co ob (by omega) (by omega) (by omega) (by omega) HW.out.r0 HW.out.r1 HW.out.m0 HW.out.m1 HW.out.c0 HW.out.c1 HW.out.b0 HW.out.b1)
  have H3 := Lib.hid (or3 v an orr HW.out.v0 HW.out.v1 HW.out.x0 HW.out.x1 HW.out.o0 HW.out.o1)
  go_enter Try.func39, Try.ntmps39
  go_wp2
  all_goals
    go_ret
    refine ⟨ret_bool ?_, (Below.refl _ _).alloc (Nat.le_refl _) _⟩
    rw [← HB.out]
    try have o1 := H6.out.1 (by assumption)
    try have o2 := mt H6.out.2 (by assumption)
    try have o3 := H3.out.1 (by assumption)
    try have o4 := mt H3.out.2 (by assumption)
    try simp only [true_and, and_true] at o2
    try simp only [true_and, and_true] at o4
    first
      | exact (decide_eq_false (by unfold plainP; omega)).symm
      | exact (decide_eq_true (by unfold plainP; omega)).symm
      | (rw [Bool.eq_iff_iff]; simp only [decide_eq_true_eq, beq_iff_eq, Bool.and_eq_true]; unfold plainP; omega)

set_option maxHeartbeats 1000000 in
theorem pbare_16 (at_ n v an orr : Int) (bl wl : Nat) (ra rn co ob : Int) (BA WA : Option Addr) (bc wc : Nat) (w : World) (b : Bool) (hw : Wide at_ n v an orr ra rn co ob) (hb : decide (plainP 16 at_ n v an orr bl wl ra rn co ob) = b) :
    Calls Try.prog 39 #[.agg #[.int .i64 16, .int .i64 at_, .int .i64 n, .int .u16 v, .int .u16 an, .int .u16 orr, .slice BA bl bc, .slice WA wl wc, .int .i64 ra, .int .i64 rn, .int .i64 co, .int .i64 ob]] w fun e w' => e = .returned (.bool b) ∧ Below w.heap.size w w' := by
  have HB := Lib.hid hb
  have HW := Lib.hid hw
  clear hb hw
  have H6 := Lib.hid (or6 0 0 ra rn co ob (by omega) (by omega) (by omega) (by omega) HW.out.r0 HW.out.r1 HW.out.m0 HW.out.m1 HW.out.c0 HW.out.c1 HW.out.b0 HW.out.b1)
  have H3 := Lib.hid (or3 v an orr HW.out.v0 HW.out.v1 HW.out.x0 HW.out.x1 HW.out.o0 HW.out.o1)
  go_enter Try.func39, Try.ntmps39
  go_wp2
  all_goals
    go_ret
    refine ⟨ret_bool ?_, (Below.refl _ _).alloc (Nat.le_refl _) _⟩
    rw [← HB.out]
    try have o1 := H6.out.1 (by assumption)
    try have o2 := mt H6.out.2 (by assumption)
    try have o3 := H3.out.1 (by assumption)
    try have o4 := mt H3.out.2 (by assumption)
    try simp only [true_and, and_true] at o2
    try simp only [true_and, and_true] at o4
    first
      | exact (decide_eq_false (by unfold plainP; omega)).symm
      | exact (decide_eq_true (by unfold plainP; omega)).symm
      | (rw [Bool.eq_iff_iff]; simp only [decide_eq_true_eq, beq_iff_eq, Bool.and_eq_true]; unfold plainP; omega)

set_option maxHeartbeats 1000000 in
theorem pbare_22 (at_ n v an orr : Int) (bl wl : Nat) (ra rn co ob : Int) (BA WA : Option Addr) (bc wc : Nat) (w : World) (b : Bool) (hw : Wide at_ n v an orr ra rn co ob) (hb : decide (plainP 22 at_ n v an orr bl wl ra rn co ob) = b) :
    Calls Try.prog 39 #[.agg #[.int .i64 22, .int .i64 at_, .int .i64 n, .int .u16 v, .int .u16 an, .int .u16 orr, .slice BA bl bc, .slice WA wl wc, .int .i64 ra, .int .i64 rn, .int .i64 co, .int .i64 ob]] w fun e w' => e = .returned (.bool b) ∧ Below w.heap.size w w' := by
  have HB := Lib.hid hb
  have HW := Lib.hid hw
  clear hb hw
  have H6 := Lib.hid (or6 0 n ra rn co ob (by omega) (by omega) HW.out.n0 HW.out.n1 HW.out.r0 HW.out.r1 HW.out.m0 HW.out.m1 HW.out.c0 HW.out.c1 HW.out.b0 HW.out.b1)
  have H3 := Lib.hid (or3 v 0 0 HW.out.v0 HW.out.v1 (by omega) (by omega) (by omega) (by omega))
  go_enter Try.func39, Try.ntmps39
  go_wp2
  all_goals
    go_ret
    refine ⟨ret_bool ?_, (Below.refl _ _).alloc (Nat.le_refl _) _⟩
    rw [← HB.out]
    try have o1 := H6.out.1 (by assumption)
    try have o2 := mt H6.out.2 (by assumption)
    try have o3 := H3.out.1 (by assumption)
    try have o4 := mt H3.out.2 (by assumption)
    try simp only [true_and, and_true] at o2
    try simp only [true_and, and_true] at o4
    first
      | exact (decide_eq_false (by unfold plainP; omega)).symm
      | exact (decide_eq_true (by unfold plainP; omega)).symm
      | (rw [Bool.eq_iff_iff]; simp only [decide_eq_true_eq, beq_iff_eq, Bool.and_eq_true]; unfold plainP; omega)

set_option maxHeartbeats 1000000 in
theorem pbare_23 (at_ n v an orr : Int) (bl wl : Nat) (ra rn co ob : Int) (BA WA : Option Addr) (bc wc : Nat) (w : World) (b : Bool) (hw : Wide at_ n v an orr ra rn co ob) (hb : decide (plainP 23 at_ n v an orr bl wl ra rn co ob) = b) :
    Calls Try.prog 39 #[.agg #[.int .i64 23, .int .i64 at_, .int .i64 n, .int .u16 v, .int .u16 an, .int .u16 orr, .slice BA bl bc, .slice WA wl wc, .int .i64 ra, .int .i64 rn, .int .i64 co, .int .i64 ob]] w fun e w' => e = .returned (.bool b) ∧ Below w.heap.size w w' := by
  have HB := Lib.hid hb
  have HW := Lib.hid hw
  clear hb hw
  have H6 := Lib.hid (or6 0 0 0 0 co ob (by omega) (by omega) (by omega) (by omega) (by omega) (by omega) (by omega) (by omega) HW.out.c0 HW.out.c1 HW.out.b0 HW.out.b1)
  have H3 := Lib.hid (or3 v an orr HW.out.v0 HW.out.v1 HW.out.x0 HW.out.x1 HW.out.o0 HW.out.o1)
  go_enter Try.func39, Try.ntmps39
  go_wp2
  all_goals
    go_ret
    refine ⟨ret_bool ?_, (Below.refl _ _).alloc (Nat.le_refl _) _⟩
    rw [← HB.out]
    try have o1 := H6.out.1 (by assumption)
    try have o2 := mt H6.out.2 (by assumption)
    try have o3 := H3.out.1 (by assumption)
    try have o4 := mt H3.out.2 (by assumption)
    try simp only [true_and, and_true] at o2
    try simp only [true_and, and_true] at o4
    first
      | exact (decide_eq_false (by unfold plainP; omega)).symm
      | exact (decide_eq_true (by unfold plainP; omega)).symm
      | (rw [Bool.eq_iff_iff]; simp only [decide_eq_true_eq, beq_iff_eq, Bool.and_eq_true]; unfold plainP; omega)

set_option maxHeartbeats 1000000 in
theorem pbare_43 (at_ n v an orr : Int) (bl wl : Nat) (ra rn co ob : Int) (BA WA : Option Addr) (bc wc : Nat) (w : World) (b : Bool) (hw : Wide at_ n v an orr ra rn co ob) (hb : decide (plainP 43 at_ n v an orr bl wl ra rn co ob) = b) :
    Calls Try.prog 39 #[.agg #[.int .i64 43, .int .i64 at_, .int .i64 n, .int .u16 v, .int .u16 an, .int .u16 orr, .slice BA bl bc, .slice WA wl wc, .int .i64 ra, .int .i64 rn, .int .i64 co, .int .i64 ob]] w fun e w' => e = .returned (.bool b) ∧ Below w.heap.size w w' := by
  have HB := Lib.hid hb
  have HW := Lib.hid hw
  clear hb hw
  have H6 := Lib.hid (or6 at_ n ra rn 0 0 HW.out.a0 HW.out.a1 HW.out.n0 HW.out.n1 HW.out.r0 HW.out.r1 HW.out.m0 HW.out.m1 (by omega) (by omega) (by omega) (by omega))
  have H3 := Lib.hid (or3 v an orr HW.out.v0 HW.out.v1 HW.out.x0 HW.out.x1 HW.out.o0 HW.out.o1)
  go_enter Try.func39, Try.ntmps39
  go_wp2
  all_goals
    go_ret
    refine ⟨ret_bool ?_, (Below.refl _ _).alloc (Nat.le_refl _) _⟩
    rw [← HB.out]
    try have o1 := H6.out.1 (by assumption)
    try have o2 := mt H6.out.2 (by assumption)
    try have o3 := H3.out.1 (by assumption)
    try have o4 := mt H3.out.2 (by assumption)
    try simp only [true_and, and_true] at o2
    try simp only [true_and, and_true] at o4
    first
      | exact (decide_eq_false (by unfold plainP; omega)).symm
      | exact (decide_eq_true (by unfold plainP; omega)).symm
      | (rw [Bool.eq_iff_iff]; simp only [decide_eq_true_eq, beq_iff_eq, Bool.and_eq_true]; unfold plainP; omega)

end Go.Proofs.Ytebpilfogdenjaa

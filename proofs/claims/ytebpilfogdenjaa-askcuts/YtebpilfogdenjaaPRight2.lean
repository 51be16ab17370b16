/- Package ask: Right. -/
import Derived.Test.YtebpilfogdenjaaPRight
namespace Go.Proofs.Ytebpilfogdenjaa
open Go.ChangeShapes Go.WideShapes Go.ChangeAt Go.RowKit
set_option linter.unusedVariables false
set_option linter.unusedSimpArgs false

theorem pright_unknown (fn at_ n v an orr : Int) (bl wl : Nat) (ra rn co ob : Int) (BA WA : Option Addr) (bc wc : Nat) (w : World) (hk : kKnown fn = false) :
    Calls Try.prog 19 #[.agg #[.int .i64 fn, .int .i64 at_, .int .i64 n, .int .u16 v, .int .u16 an, .int .u16 orr, .slice BA bl bc, .slice WA wl wc, .int .i64 ra, .int .i64 rn, .int .i64 co, .int .i64 ob]] w fun e w' => e = .returned (.bool false) ∧ Below w.heap.size w w' := by
  have HK := Lib.hid hk
  clear hk
  go_enter Try.func19, Try.ntmps19
  go_wp2_with (go_at_call 36; refine (pknown_lit fn false _ HK.out).mono ?_; rintro e w' ⟨rfl, rfl⟩)
  go_ret
  exact ⟨rfl, (Below.refl _ _).alloc (Nat.le_refl _) _⟩

set_option maxHeartbeats 1000000 in
theorem pright_1 (at_ n v an orr : Int) (bl wl : Nat) (ra rn co ob : Int) (BA WA : Option Addr) (bc wc : Nat) (w : World) (b : Bool) (hw : Wide at_ n v an orr ra rn co ob) (hb : decide (rightP 1 at_ n v an orr bl wl ra rn co ob) = b) :
    Calls Try.prog 19 #[.agg #[.int .i64 1, .int .i64 at_, .int .i64 n, .int .u16 v, .int .u16 an, .int .u16 orr, .slice BA bl bc, .slice WA wl wc, .int .i64 ra, .int .i64 rn, .int .i64 co, .int .i64 ob]] w fun e w' => e = .returned (.bool b) ∧ Below w.heap.size w w' := by
  have HB := Lib.hid hb
  have HW := Lib.hid hw
  clear hb hw
  have HK : Hid (kKnown 1 = true) := rfl
  obtain ⟨ha, hHA⟩ : ∃ c, decide (0 ≤ at_ ∧ at_ ≤ 65535) = c := ⟨_, rfl⟩
  obtain ⟨hr, hHR⟩ : ∃ c, decide (0 ≤ ra ∧ ra ≤ 65535) = c := ⟨_, rfl⟩
  obtain ⟨hn, hHN⟩ : ∃ c, decide (fitsP 1 at_ n v an orr bl wl ra rn co ob) = c := ⟨_, rfl⟩
  obtain ⟨hp, hHP⟩ : ∃ c, decide (plainP 1 at_ n v an orr bl wl ra rn co ob) = c := ⟨_, rfl⟩
  have HA := Lib.hid hHA
  have HR := Lib.hid hHR
  have HN := Lib.hid hHN
  have HP := Lib.hid hHP
  clear hHA hHR hHN hHP
  cases ha
  case false =>
    go_enter Try.func19, Try.ntmps19
    go_wp2_with (first
      | (go_at_call 36; refine (pknown_lit 1 true _ HK.out).mono ?_; rintro e w' ⟨rfl, rfl⟩)
      | (go_at_call 37; (with_reducible refine (isword_lit at_ _ _ HA.out).mono ?_); rintro e w' ⟨rfl, rfl⟩))
    go_ret
    refine ⟨ret_bool ?_, (Below.refl _ _).alloc (Nat.le_refl _) _⟩
    rw [← HB.out]
    exact (decide_eq_false (fun h => absurd h.2.2.1 (of_decide_eq_false HA.out))).symm
  case true =>
  cases hr
  case false =>
    go_enter Try.func19, Try.ntmps19
    go_wp2_with (first
      | (go_at_call 36; refine (pknown_lit 1 true _ HK.out).mono ?_; rintro e w' ⟨rfl, rfl⟩)
      | (go_at_call 37; (with_reducible refine (isword_lit at_ _ _ HA.out).mono ?_); rintro e w' ⟨rfl, rfl⟩)
      | (go_at_call 37; (with_reducible refine (isword_lit ra _ _ HR.out).mono ?_); rintro e w' ⟨rfl, rfl⟩))
    go_ret
    refine ⟨ret_bool ?_, (Below.refl _ _).alloc (Nat.le_refl _) _⟩
    rw [← HB.out]
    exact (decide_eq_false (fun h => absurd h.2.2.2.1 (of_decide_eq_false HR.out))).symm
  case true =>
  cases hn
  case false =>
    go_enter Try.func19, Try.ntmps19
    go_wp2_with (first
      | (go_at_call 36; refine (pknown_lit 1 true _ HK.out).mono ?_; rintro e w' ⟨rfl, rfl⟩)
      | (go_at_call 37; (with_reducible refine (isword_lit at_ _ _ HA.out).mono ?_); rintro e w' ⟨rfl, rfl⟩)
      | (go_at_call 37; (with_reducible refine (isword_lit ra _ _ HR.out).mono ?_); rintro e w' ⟨rfl, rfl⟩)
      | (go_at_call 38
         refine (pnum_1 at_ n v an orr bl wl ra rn co ob BA WA bc wc _ false HN.out).mono ?_
         rintro e w4 ⟨rfl, hb4⟩
         have HB4 : Hid (Below w.heap.size w w4) := ((Below.refl _ _).alloc (Nat.le_refl _) _).trans (hb4.mono (by simp))
         clear hb4))
    go_ret
    refine ⟨ret_bool ?_, HB4.out⟩
    rw [← HB.out]
    exact (decide_eq_false (fun h => absurd h.2.2.2.2 (of_decide_eq_false HN.out))).symm
  case true =>
    go_enter Try.func19, Try.ntmps19
    go_wp2_with (first
      | (go_at_call 36; refine (pknown_lit 1 true _ HK.out).mono ?_; rintro e w' ⟨rfl, rfl⟩)
      | (go_at_call 37; (with_reducible refine (isword_lit at_ _ _ HA.out).mono ?_); rintro e w' ⟨rfl, rfl⟩)
      | (go_at_call 37; (with_reducible refine (isword_lit ra _ _ HR.out).mono ?_); rintro e w' ⟨rfl, rfl⟩)
      | (go_at_call 38
         refine (pnum_1 at_ n v an orr bl wl ra rn co ob BA WA bc wc _ true HN.out).mono ?_
         rintro e w4 ⟨rfl, hb4⟩
         have HB4 : Hid (Below w.heap.size w w4) := ((Below.refl _ _).alloc (Nat.le_refl _) _).trans (hb4.mono (by simp))
         have hk4 : Below (w.heap.size + 1) (w.alloc (.cells #[.int .i64 1, .int .i64 at_, .int .i64 n, .int .u16 v, .int .u16 an, .int .u16 orr, .slice BA bl bc, .slice WA wl wc, .int .i64 ra, .int .i64 rn, .int .i64 co, .int .i64 ob] 30)) w4 := by
           rwa [show (w.alloc (.cells #[.int .i64 1, .int .i64 at_, .int .i64 n, .int .u16 v, .int .u16 an, .int .u16 orr, .slice BA bl bc, .slice WA wl wc, .int .i64 ra, .int .i64 rn, .int .i64 co, .int .i64 ob] 30)).heap.size = w.heap.size + 1 by simp] at hb4
         obtain ⟨hc0, hc1, hc2, hc3, hc4, hc5, hc6, hc7, hc8, hc9, hc10, hc11⟩ := box12 _ _ _ _ _ _ _ _ _ _ _ _ _ w w4 hk4
         clear hb4 hk4)
      | (go_at_call 39
         refine (pbare_1 at_ n v an orr bl wl ra rn co ob BA WA bc wc _ hp HW.out HP.out).mono ?_
         rintro e w5 ⟨rfl, hb5⟩
         have HB5 : Hid (Below w.heap.size w w5) := HB4.out.trans (hb5.mono HB4.out.size)
         clear hb5))
    go_ret
    refine ⟨ret_bool ?_, HB5.out⟩
    rw [← HB.out, ← HP.out, Bool.eq_iff_iff]
    simp only [decide_eq_true_eq]
    exact ⟨fun h => ⟨rfl, h, of_decide_eq_true HA.out, of_decide_eq_true HR.out, of_decide_eq_true HN.out⟩, fun h => h.2.1⟩

set_option maxHeartbeats 1000000 in
theorem pright_2 (at_ n v an orr : Int) (bl wl : Nat) (ra rn co ob : Int) (BA WA : Option Addr) (bc wc : Nat) (w : World) (b : Bool) (hw : Wide at_ n v an orr ra rn co ob) (hb : decide (rightP 2 at_ n v an orr bl wl ra rn co ob) = b) :
    Calls Try.prog 19 #[.agg #[.int .i64 2, .int .i64 at_, .int .i64 n, .int .u16 v, .int .u16 an, .int .u16 orr, .slice BA bl bc, .slice WA wl wc, .int .i64 ra, .int .i64 rn, .int .i64 co, .int .i64 ob]] w fun e w' => e = .returned (.bool b) ∧ Below w.heap.size w w' := by
  have HB := Lib.hid hb
  have HW := Lib.hid hw
  clear hb hw
  have HK : Hid (kKnown 2 = true) := rfl
  obtain ⟨ha, hHA⟩ : ∃ c, decide (0 ≤ at_ ∧ at_ ≤ 65535) = c := ⟨_, rfl⟩
  obtain ⟨hr, hHR⟩ : ∃ c, decide (0 ≤ ra ∧ ra ≤ 65535) = c := ⟨_, rfl⟩
  obtain ⟨hn, hHN⟩ : ∃ c, decide (fitsP 2 at_ n v an orr bl wl ra rn co ob) = c := ⟨_, rfl⟩
  obtain ⟨hp, hHP⟩ : ∃ c, decide (plainP 2 at_ n v an orr bl wl ra rn co ob) = c := ⟨_, rfl⟩
  have HA := Lib.hid hHA
  have HR := Lib.hid hHR
  have HN := Lib.hid hHN
  have HP := Lib.hid hHP
  clear hHA hHR hHN hHP
  cases ha
  case false =>
    go_enter Try.func19, Try.ntmps19
    go_wp2_with (first
      | (go_at_call 36; refine (pknown_lit 2 true _ HK.out).mono ?_; rintro e w' ⟨rfl, rfl⟩)
      | (go_at_call 37; (with_reducible refine (isword_lit at_ _ _ HA.out).mono ?_); rintro e w' ⟨rfl, rfl⟩))
    go_ret
    refine ⟨ret_bool ?_, (Below.refl _ _).alloc (Nat.le_refl _) _⟩
    rw [← HB.out]
    exact (decide_eq_false (fun h => absurd h.2.2.1 (of_decide_eq_false HA.out))).symm
  case true =>
  cases hr
  case false =>
    go_enter Try.func19, Try.ntmps19
    go_wp2_with (first
      | (go_at_call 36; refine (pknown_lit 2 true _ HK.out).mono ?_; rintro e w' ⟨rfl, rfl⟩)
      | (go_at_call 37; (with_reducible refine (isword_lit at_ _ _ HA.out).mono ?_); rintro e w' ⟨rfl, rfl⟩)
      | (go_at_call 37; (with_reducible refine (isword_lit ra _ _ HR.out).mono ?_); rintro e w' ⟨rfl, rfl⟩))
    go_ret
    refine ⟨ret_bool ?_, (Below.refl _ _).alloc (Nat.le_refl _) _⟩
    rw [← HB.out]
    exact (decide_eq_false (fun h => absurd h.2.2.2.1 (of_decide_eq_false HR.out))).symm
  case true =>
  cases hn
  case false =>
    go_enter Try.func19, Try.ntmps19
    go_wp2_with (first
      | (go_at_call 36; refine (pknown_lit 2 true _ HK.out).mono ?_; rintro e w' ⟨rfl, rfl⟩)
      | (go_at_call 37; (with_reducible refine (isword_lit at_ _ _ HA.out).mono ?_); rintro e w' ⟨rfl, rfl⟩)
      | (go_at_call 37; (with_reducible refine (isword_lit ra _ _ HR.out).mono ?_); rintro e w' ⟨rfl, rfl⟩)
      | (go_at_call 38
         refine (pnum_2 at_ n v an orr bl wl ra rn co ob BA WA bc wc _ false HN.out).mono ?_
         rintro e w4 ⟨rfl, hb4⟩
         have HB4 : Hid (Below w.heap.size w w4) := ((Below.refl _ _).alloc (Nat.le_refl _) _).trans (hb4.mono (by simp))
         clear hb4))
    go_ret
    refine ⟨ret_bool ?_, HB4.out⟩
    rw [← HB.out]
    exact (decide_eq_false (fun h => absurd h.2.2.2.2 (of_decide_eq_false HN.out))).symm
  case true =>
    go_enter Try.func19, Try.ntmps19
    go_wp2_with (first
      | (go_at_call 36; refine (pknown_lit 2 true _ HK.out).mono ?_; rintro e w' ⟨rfl, rfl⟩)
      | (go_at_call 37; (with_reducible refine (isword_lit at_ _ _ HA.out).mono ?_); rintro e w' ⟨rfl, rfl⟩)
      | (go_at_call 37; (with_reducible refine (isword_lit ra _ _ HR.out).mono ?_); rintro e w' ⟨rfl, rfl⟩)
      | (go_at_call 38
         refine (pnum_2 at_ n v an orr bl wl ra rn co ob BA WA bc wc _ true HN.out).mono ?_
         rintro e w4 ⟨rfl, hb4⟩
         have HB4 : Hid (Below w.heap.size w w4) := ((Below.refl _ _).alloc (Nat.le_refl _) _).trans (hb4.mono (by simp))
         have hk4 : Below (w.heap.size + 1) (w.alloc (.cells #[.int .i64 2, .int .i64 at_, .int .i64 n, .int .u16 v, .int .u16 an, .int .u16 orr, .slice BA bl bc, .slice WA wl wc, .int .i64 ra, .int .i64 rn, .int .i64 co, .int .i64 ob] 30)) w4 := by
           rwa [show (w.alloc (.cells #[.int .i64 2, .int .i64 at_, .int .i64 n, .int .u16 v, .int .u16 an, .int .u16 orr, .slice BA bl bc, .slice WA wl wc, .int .i64 ra, .int .i64 rn, .int .i64 co, .int .i64 ob] 30)).heap.size = w.heap.size + 1 by simp] at hb4
         obtain ⟨hc0, hc1, hc2, hc3, hc4, hc5, hc6, hc7, hc8, hc9, hc10, hc11⟩ := box12 _ _ _ _ _ _ _ _ _ _ _ _ _ w w4 hk4
         clear hb4 hk4)
      | (go_at_call 39
         refine (pbare_2 at_ n v an orr bl wl ra rn co ob BA WA bc wc _ hp HW.out HP.out).mono ?_
         rintro e w5 ⟨rfl, hb5⟩
         have HB5 : Hid (Below w.heap.size w w5) := HB4.out.trans (hb5.mono HB4.out.size)
         clear hb5))
    go_ret
    refine ⟨ret_bool ?_, HB5.out⟩
    rw [← HB.out, ← HP.out, Bool.eq_iff_iff]
    simp only [decide_eq_true_eq]
    exact ⟨fun h => ⟨rfl, h, of_decide_eq_true HA.out, of_decide_eq_true HR.out, of_decide_eq_true HN.out⟩, fun h => h.2.1⟩

set_option maxHeartbeats 1000000 in
theorem pright_3 (at_ n v an orr : Int) (bl wl : Nat) (ra rn co ob : Int) (BA WA : Option Addr) (bc wc : Nat) (w : World) (b : Bool) (hw : Wide at_ n v an orr ra rn co ob) (hb : decide (rightP 3 at_ n v an orr bl wl ra rn co ob) = b) :
    Calls Try.prog 19 #[.agg #[.int .i64 3, .int .i64 at_, .int .i64 n, .int .u16 v, .int .u16 an, .int .u16 orr, .slice BA bl bc, .slice WA wl wc, .int .i64 ra, .int .i64 rn, .int .i64 co, .int .i64 ob]] w fun e w' => e = .returned (.bool b) ∧ Below w.heap.size w w' := by
  have HB := Lib.hid hb
  have HW := Lib.hid hw
  clear hb hw
  have HK : Hid (kKnown 3 = true) := rfl
  obtain ⟨ha, hHA⟩ : ∃ c, decide (0 ≤ at_ ∧ at_ ≤ 65535) = c := ⟨_, rfl⟩
  obtain ⟨hr, hHR⟩ : ∃ c, decide (0 ≤ ra ∧ ra ≤ 65535) = c := ⟨_, rfl⟩
  obtain ⟨hn, hHN⟩ : ∃ c, decide (fitsP 3 at_ n v an orr bl wl ra rn co ob) = c := ⟨_, rfl⟩
  obtain ⟨hp, hHP⟩ : ∃ c, decide (plainP 3 at_ n v an orr bl wl ra rn co ob) = c := ⟨_, rfl⟩
  have HA := Lib.hid hHA
  have HR := Lib.hid hHR
  have HN := Lib.hid hHN
  have HP := Lib.hid hHP
  clear hHA hHR hHN hHP
  cases ha
  case false =>
    go_enter Try.func19, Try.ntmps19
    go_wp2_with (first
      | (go_at_call 36; refine (pknown_lit 3 true _ HK.out).mono ?_; rintro e w' ⟨rfl, rfl⟩)
      | (go_at_call 37; (with_reducible refine (isword_lit at_ _ _ HA.out).mono ?_); rintro e w' ⟨rfl, rfl⟩))
    go_ret
    refine ⟨ret_bool ?_, (Below.refl _ _).alloc (Nat.le_refl _) _⟩
    rw [← HB.out]
    exact (decide_eq_false (fun h => absurd h.2.2.1 (of_decide_eq_false HA.out))).symm
  case true =>
  cases hr
  case false =>
    go_enter Try.func19, Try.ntmps19
    go_wp2_with (first
      | (go_at_call 36; refine (pknown_lit 3 true _ HK.out).mono ?_; rintro e w' ⟨rfl, rfl⟩)
      | (go_at_call 37; (with_reducible refine (isword_lit at_ _ _ HA.out).mono ?_); rintro e w' ⟨rfl, rfl⟩)
      | (go_at_call 37; (with_reducible refine (isword_lit ra _ _ HR.out).mono ?_); rintro e w' ⟨rfl, rfl⟩))
    go_ret
    refine ⟨ret_bool ?_, (Below.refl _ _).alloc (Nat.le_refl _) _⟩
    rw [← HB.out]
    exact (decide_eq_false (fun h => absurd h.2.2.2.1 (of_decide_eq_false HR.out))).symm
  case true =>
  cases hn
  case false =>
    go_enter Try.func19, Try.ntmps19
    go_wp2_with (first
      | (go_at_call 36; refine (pknown_lit 3 true _ HK.out).mono ?_; rintro e w' ⟨rfl, rfl⟩)
      | (go_at_call 37; (with_reducible refine (isword_lit at_ _ _ HA.out).mono ?_); rintro e w' ⟨rfl, rfl⟩)
      | (go_at_call 37; (with_reducible refine (isword_lit ra _ _ HR.out).mono ?_); rintro e w' ⟨rfl, rfl⟩)
      | (go_at_call 38
         refine (pnum_3 at_ n v an orr bl wl ra rn co ob BA WA bc wc _ false HN.out).mono ?_
         rintro e w4 ⟨rfl, hb4⟩
         have HB4 : Hid (Below w.heap.size w w4) := ((Below.refl _ _).alloc (Nat.le_refl _) _).trans (hb4.mono (by simp))
         clear hb4))
    go_ret
    refine ⟨ret_bool ?_, HB4.out⟩
    rw [← HB.out]
    exact (decide_eq_false (fun h => absurd h.2.2.2.2 (of_decide_eq_false HN.out))).symm
  case true =>
    go_enter Try.func19, Try.ntmps19
    go_wp2_with (first
      | (go_at_call 36; refine (pknown_lit 3 true _ HK.out).mono ?_; rintro e w' ⟨rfl, rfl⟩)
      | (go_at_call 37; (with_reducible refine (isword_lit at_ _ _ HA.out).mono ?_); rintro e w' ⟨rfl, rfl⟩)
      | (go_at_call 37; (with_reducible refine (isword_lit ra _ _ HR.out).mono ?_); rintro e w' ⟨rfl, rfl⟩)
      | (go_at_call 38
         refine (pnum_3 at_ n v an orr bl wl ra rn co ob BA WA bc wc _ true HN.out).mono ?_
         rintro e w4 ⟨rfl, hb4⟩
         have HB4 : Hid (Below w.heap.size w w4) := ((Below.refl _ _).alloc (Nat.le_refl _) _).trans (hb4.mono (by simp))
         have hk4 : Below (w.heap.size + 1) (w.alloc (.cells #[.int .i64 3, .int .i64 at_, .int .i64 n, .int .u16 v, .int .u16 an, .int .u16 orr, .slice BA bl bc, .slice WA wl wc, .int .i64 ra, .int .i64 rn, .int .i64 co, .int .i64 ob] 30)) w4 := by
           rwa [show (w.alloc (.cells #[.int .i64 3, .int .i64 at_, .int .i64 n, .int .u16 v, .int .u16 an, .int .u16 orr, .slice BA bl bc, .slice WA wl wc, .int .i64 ra, .int .i64 rn, .int .i64 co, .int .i64 ob] 30)).heap.size = w.heap.size + 1 by simp] at hb4
         obtain ⟨hc0, hc1, hc2, hc3, hc4, hc5, hc6, hc7, hc8, hc9, hc10, hc11⟩ := box12 _ _ _ _ _ _ _ _ _ _ _ _ _ w w4 hk4
         clear hb4 hk4)
      | (go_at_call 39
         refine (pbare_3 at_ n v an orr bl wl ra rn co ob BA WA bc wc _ hp HW.out HP.out).mono ?_
         rintro e w5 ⟨rfl, hb5⟩
         have HB5 : Hid (Below w.heap.size w w5) := HB4.out.trans (hb5.mono HB4.out.size)
         clear hb5))
    go_ret
    refine ⟨ret_bool ?_, HB5.out⟩
    rw [← HB.out, ← HP.out, Bool.eq_iff_iff]
    simp only [decide_eq_true_eq]
    exact ⟨fun h => ⟨rfl, h, of_decide_eq_true HA.out, of_decide_eq_true HR.out, of_decide_eq_true HN.out⟩, fun h => h.2.1⟩

set_option maxHeartbeats 1000000 in
theorem pright_4 (at_ n v an orr : Int) (bl wl : Nat) (ra rn co ob : Int) (BA WA : Option Addr) (bc wc : Nat) (w : World) (b : Bool) (hw : Wide at_ n v an orr ra rn co ob) (hb : decide (rightP 4 at_ n v an orr bl wl ra rn co ob) = b) :
    Calls Try.prog 19 #[.agg #[.int .i64 4, .int .i64 at_, .int .i64 n, .int .u16 v, .int .u16 an, .int .u16 orr, .slice BA bl bc, .slice WA wl wc, .int .i64 ra, .int .i64 rn, .int .i64 co, .int .i64 ob]] w fun e w' => e = .returned (.bool b) ∧ Below w.heap.size w w' := by
  have HB := Lib.hid hb
  have HW := Lib.hid hw
  clear hb hw
  have HK : Hid (kKnown 4 = true) := rfl
  obtain ⟨ha, hHA⟩ : ∃ c, decide (0 ≤ at_ ∧ at_ ≤ 65535) = c := ⟨_, rfl⟩
  obtain ⟨hr, hHR⟩ : ∃ c, decide (0 ≤ ra ∧ ra ≤ 65535) = c := ⟨_, rfl⟩
  obtain ⟨hn, hHN⟩ : ∃ c, decide (fitsP 4 at_ n v an orr bl wl ra rn co ob) = c := ⟨_, rfl⟩
  obtain ⟨hp, hHP⟩ : ∃ c, decide (plainP 4 at_ n v an orr bl wl ra rn co ob) = c := ⟨_, rfl⟩
  have HA := Lib.hid hHA
  have HR := Lib.hid hHR
  have HN := Lib.hid hHN
  have HP := Lib.hid hHP
  clear hHA hHR hHN hHP
  cases ha
  case false =>
    go_enter Try.func19, Try.ntmps19
    go_wp2_with (first
      | (go_at_call 36; refine (pknown_lit 4 true _ HK.out).mono ?_; rintro e w' ⟨rfl, rfl⟩)
      | (go_at_call 37; (with_reducible refine (isword_lit at_ _ _ HA.out).mono ?_); rintro e w' ⟨rfl, rfl⟩))
    go_ret
    refine ⟨ret_bool ?_, (Below.refl _ _).alloc (Nat.le_refl _) _⟩
    rw [← HB.out]
    exact (decide_eq_false (fun h => absurd h.2.2.1 (of_decide_eq_false HA.out))).symm
  case true =>
  cases hr
  case false =>
    go_enter Try.func19, Try.ntmps19
    go_wp2_with (first
      | (go_at_call 36; refine (pknown_lit 4 true _ HK.out).mono ?_; rintro e w' ⟨rfl, rfl⟩)
      | (go_at_call 37; (with_reducible refine (isword_lit at_ _ _ HA.out).mono ?_); rintro e w' ⟨rfl, rfl⟩)
      | (go_at_call 37; (with_reducible refine (isword_lit ra _ _ HR.out).mono ?_); rintro e w' ⟨rfl, rfl⟩))
    go_ret
    refine ⟨ret_bool ?_, (Below.refl _ _).alloc (Nat.le_refl _) _⟩
    rw [← HB.out]
    exact (decide_eq_false (fun h => absurd h.2.2.2.1 (of_decide_eq_false HR.out))).symm
  case true =>
  cases hn
  case false =>
    go_enter Try.func19, Try.ntmps19
    go_wp2_with (first
      | (go_at_call 36; refine (pknown_lit 4 true _ HK.out).mono ?_; rintro e w' ⟨rfl, rfl⟩)
      | (go_at_call 37; (with_reducible refine (isword_lit at_ _ _ HA.out).mono ?_); rintro e w' ⟨rfl, rfl⟩)
      | (go_at_call 37; (with_reducible refine (isword_lit ra _ _ HR.out).mono ?_); rintro e w' ⟨rfl, rfl⟩)
      | (go_at_call 38
         refine (pnum_4 at_ n v an orr bl wl ra rn co ob BA WA bc wc _ false HN.out).mono ?_
         rintro e w4 ⟨rfl, hb4⟩
         have HB4 : Hid (Below w.heap.size w w4) := ((Below.refl _ _).alloc (Nat.le_refl _) _).trans (hb4.mono (by simp))
         clear hb4))
    go_ret
    refine ⟨ret_bool ?_, HB4.out⟩
    rw [← HB.out]
    exact (decide_eq_false (fun h => absurd h.2.2.2.2 (of_decide_eq_false HN.out))).symm
  case true =>
    go_enter Try.func19, Try.ntmps19
    go_wp2_with (first
      | (go_at_call 36; refine (pknown_lit 4 true _ HK.out).mono ?_; rintro e w' ⟨rfl, rfl⟩)
      | (go_at_call 37; (with_reducible refine (isword_lit at_ _ _ HA.out).mono ?_); rintro e w' ⟨rfl, rfl⟩)
      | (go_at_call 37; (with_reducible refine (isword_lit ra _ _ HR.out).mono ?_); rintro e w' ⟨rfl, rfl⟩)
      | (go_at_call 38
         refine (pnum_4 at_ n v an orr bl wl ra rn co ob BA WA bc wc _ true HN.out).mono ?_
         rintro e w4 ⟨rfl, hb4⟩
         have HB4 : Hid (Below w.heap.size w w4) := ((Below.refl _ _).alloc (Nat.le_refl _) _).trans (hb4.mono (by simp))
         have hk4 : Below (w.heap.size + 1) (w.alloc (.cells #[.int .i64 4, .int .i64 at_, .int .i64 n, .int .u16 v, .int .u16 an, .int .u16 orr, .slice BA bl bc, .slice WA wl wc, .int .i64 ra, .int .i64 rn, .int .i64 co, .int .i64 ob] 30)) w4 := by
           rwa [show (w.alloc (.cells #[.int .i64 4, .int .i64 at_, .int .i64 n, .int .u16 v, .int .u16 an, .int .u16 orr, .slice BA bl bc, .slice WA wl wc, .int .i64 ra, .int .i64 rn, .int .i64 co, .int .i64 ob] 30)).heap.size = w.heap.size + 1 by simp] at hb4
         obtain ⟨hc0, hc1, hc2, hc3, hc4, hc5, hc6, hc7, hc8, hc9, hc10, hc11⟩ := box12 _ _ _ _ _ _ _ _ _ _ _ _ _ w w4 hk4
         clear hb4 hk4)
      | (go_at_call 39
         refine (pbare_4 at_ n v an orr bl wl ra rn co ob BA WA bc wc _ hp HW.out HP.out).mono ?_
         rintro e w5 ⟨rfl, hb5⟩
         have HB5 : Hid (Below w.heap.size w w5) := HB4.out.trans (hb5.mono HB4.out.size)
         clear hb5))
    go_ret
    refine ⟨ret_bool ?_, HB5.out⟩
    rw [← HB.out, ← HP.out, Bool.eq_iff_iff]
    simp only [decide_eq_true_eq]
    exact ⟨fun h => ⟨rfl, h, of_decide_eq_true HA.out, of_decide_eq_true HR.out, of_decide_eq_true HN.out⟩, fun h => h.2.1⟩

set_option maxHeartbeats 1000000 in
theorem pright_5 (at_ n v an orr : Int) (bl wl : Nat) (ra rn co ob : Int) (BA WA : Option Addr) (bc wc : Nat) (w : World) (b : Bool) (hw : Wide at_ n v an orr ra rn co ob) (hb : decide (rightP 5 at_ n v an orr bl wl ra rn co ob) = b) :
    Calls Try.prog 19 #[.agg #[.int .i64 5, .int .i64 at_, .int .i64 n, .int .u16 v, .int .u16 an, .int .u16 orr, .slice BA bl bc, .slice WA wl wc, .int .i64 ra, .int .i64 rn, .int .i64 co, .int .i64 ob]] w fun e w' => e = .returned (.bool b) ∧ Below w.heap.size w w' := by
  have HB := Lib.hid hb
  have HW := Lib.hid hw
  clear hb hw
  have HK : Hid (kKnown 5 = true) := rfl
  obtain ⟨ha, hHA⟩ : ∃ c, decide (0 ≤ at_ ∧ at_ ≤ 65535) = c := ⟨_, rfl⟩
  obtain ⟨hr, hHR⟩ : ∃ c, decide (0 ≤ ra ∧ ra ≤ 65535) = c := ⟨_, rfl⟩
  obtain ⟨hn, hHN⟩ : ∃ c, decide (fitsP 5 at_ n v an orr bl wl ra rn co ob) = c := ⟨_, rfl⟩
  obtain ⟨hp, hHP⟩ : ∃ c, decide (plainP 5 at_ n v an orr bl wl ra rn co ob) = c := ⟨_, rfl⟩
  have HA := Lib.hid hHA
  have HR := Lib.hid hHR
  have HN := Lib.hid hHN
  have HP := Lib.hid hHP
  clear hHA hHR hHN hHP
  cases ha
  case false =>
    go_enter Try.func19, Try.ntmps19
    go_wp2_with (first
      | (go_at_call 36; refine (pknown_lit 5 true _ HK.out).mono ?_; rintro e w' ⟨rfl, rfl⟩)
      | (go_at_call 37; (with_reducible refine (isword_lit at_ _ _ HA.out).mono ?_); rintro e w' ⟨rfl, rfl⟩))
    go_ret
    refine ⟨ret_bool ?_, (Below.refl _ _).alloc (Nat.le_refl _) _⟩
    rw [← HB.out]
    exact (decide_eq_false (fun h => absurd h.2.2.1 (of_decide_eq_false HA.out))).symm
  case true =>
  cases hr
  case false =>
    go_enter Try.func19, Try.ntmps19
    go_wp2_with (first
      | (go_at_call 36; refine (pknown_lit 5 true _ HK.out).mono ?_; rintro e w' ⟨rfl, rfl⟩)
      | (go_at_call 37; (with_reducible refine (isword_lit at_ _ _ HA.out).mono ?_); rintro e w' ⟨rfl, rfl⟩)
      | (go_at_call 37; (with_reducible refine (isword_lit ra _ _ HR.out).mono ?_); rintro e w' ⟨rfl, rfl⟩))
    go_ret
    refine ⟨ret_bool ?_, (Below.refl _ _).alloc (Nat.le_refl _) _⟩
    rw [← HB.out]
    exact (decide_eq_false (fun h => absurd h.2.2.2.1 (of_decide_eq_false HR.out))).symm
  case true =>
  cases hn
  case false =>
    go_enter Try.func19, Try.ntmps19
    go_wp2_with (first
      | (go_at_call 36; refine (pknown_lit 5 true _ HK.out).mono ?_; rintro e w' ⟨rfl, rfl⟩)
      | (go_at_call 37; (with_reducible refine (isword_lit at_ _ _ HA.out).mono ?_); rintro e w' ⟨rfl, rfl⟩)
      | (go_at_call 37; (with_reducible refine (isword_lit ra _ _ HR.out).mono ?_); rintro e w' ⟨rfl, rfl⟩)
      | (go_at_call 38
         refine (pnum_5 at_ n v an orr bl wl ra rn co ob BA WA bc wc _ false HN.out).mono ?_
         rintro e w4 ⟨rfl, hb4⟩
         have HB4 : Hid (Below w.heap.size w w4) := ((Below.refl _ _).alloc (Nat.le_refl _) _).trans (hb4.mono (by simp))
         clear hb4))
    go_ret
    refine ⟨ret_bool ?_, HB4.out⟩
    rw [← HB.out]
    exact (decide_eq_false (fun h => absurd h.2.2.2.2 (of_decide_eq_false HN.out))).symm
  case true =>
    go_enter Try.func19, Try.ntmps19
    go_wp2_with (first
      | (go_at_call 36; refine (pknown_lit 5 true _ HK.out).mono ?_; rintro e w' ⟨rfl, rfl⟩)
      | (go_at_call 37; (with_reducible refine (isword_lit at_ _ _ HA.out).mono ?_); rintro e w' ⟨rfl, rfl⟩)
      | (go_at_call 37; (with_reducible refine (isword_lit ra _ _ HR.out).mono ?_); rintro e w' ⟨rfl, rfl⟩)
      | (go_at_call 38
         refine (pnum_5 at_ n v an orr bl wl ra rn co ob BA WA bc wc _ true HN.out).mono ?_
         rintro e w4 ⟨rfl, hb4⟩
         have HB4 : Hid (Below w.heap.size w w4) := ((Below.refl _ _).alloc (Nat.le_refl _) _).trans (hb4.mono (by simp))
         have hk4 : Below (w.heap.size + 1) (w.alloc (.cells #[.int .i64 5, .int .i64 at_, .int .i64 n, .int .u16 v, .int .u16 an, .int .u16 orr, .slice BA bl bc, .slice WA wl wc, .int .i64 ra, .int .i64 rn, .int .i64 co, .int .i64 ob] 30)) w4 := by
           rwa [show (w.alloc (.cells #[.int .i64 5, .int .i64 at_, .int .i64 n, .int .u16 v, .int .u16 an, .int .u16 orr, .slice BA bl bc, .slice WA wl wc, .int .i64 ra, .int .i64 rn, .int .i64 co, .int .i64 ob] 30)).heap.size = w.heap.size + 1 by simp] at hb4
         obtain ⟨hc0, hc1, hc2, hc3, hc4, hc5, hc6, hc7, hc8, hc9, hc10, hc11⟩ := box12 _ _ _ _ _ _ _ _ _ _ _ _ _ w w4 hk4
         clear hb4 hk4)
      | (go_at_call 39
         refine (pbare_5 at_ n v an orr bl wl ra rn co ob BA WA bc wc _ hp HW.out HP.out).mono ?_
         rintro e w5 ⟨rfl, hb5⟩
         have HB5 : Hid (Below w.heap.size w w5) := HB4.out.trans (hb5.mono HB4.out.size)
         clear hb5))
    go_ret
    refine ⟨ret_bool ?_, HB5.out⟩
    rw [← HB.out, ← HP.out, Bool.eq_iff_iff]
    simp only [decide_eq_true_eq]
    exact ⟨fun h => ⟨rfl, h, of_decide_eq_true HA.out, of_decide_eq_true HR.out, of_decide_eq_true HN.out⟩, fun h => h.2.1⟩

set_option maxHeartbeats 1000000 in
theorem pright_6 (at_ n v an orr : Int) (bl wl : Nat) (ra rn co ob : Int) (BA WA : Option Addr) (bc wc : Nat) (w : World) (b : Bool) (hw : Wide at_ n v an orr ra rn co ob) (hb : decide (rightP 6 at_ n v an orr bl wl ra rn co ob) = b) :
    Calls Try.prog 19 #[.agg #[.int .i64 6, .int .i64 at_, .int .i64 n, .int .u16 v, .int .u16 an, .int .u16 orr, .slice BA bl bc, .slice WA wl wc, .int .i64 ra, .int .i64 rn, .int .i64 co, .int .i64 ob]] w fun e w' => e = .returned (.bool b) ∧ Below w.heap.size w w' := by
  have HB := Lib.hid hb
  have HW := Lib.hid hw
  clear hb hw
  have HK : Hid (kKnown 6 = true) := rfl
  obtain ⟨ha, hHA⟩ : ∃ c, decide (0 ≤ at_ ∧ at_ ≤ 65535) = c := ⟨_, rfl⟩
  obtain ⟨hr, hHR⟩ : ∃ c, decide (0 ≤ ra ∧ ra ≤ 65535) = c := ⟨_, rfl⟩
  obtain ⟨hn, hHN⟩ : ∃ c, decide (fitsP 6 at_ n v an orr bl wl ra rn co ob) = c := ⟨_, rfl⟩
  obtain ⟨hp, hHP⟩ : ∃ c, decide (plainP 6 at_ n v an orr bl wl ra rn co ob) = c := ⟨_, rfl⟩
  have HA := Lib.hid hHA
  have HR := Lib.hid hHR
  have HN := Lib.hid hHN
  have HP := Lib.hid hHP
  clear hHA hHR hHN hHP
  cases ha
  case false =>
    go_enter Try.func19, Try.ntmps19
    go_wp2_with (first
      | (go_at_call 36; refine (pknown_lit 6 true _ HK.out).mono ?_; rintro e w' ⟨rfl, rfl⟩)
      | (go_at_call 37; (with_reducible refine (isword_lit at_ _ _ HA.out).mono ?_); rintro e w' ⟨rfl, rfl⟩))
    go_ret
    refine ⟨ret_bool ?_, (Below.refl _ _).alloc (Nat.le_refl _) _⟩
    rw [← HB.out]
    exact (decide_eq_false (fun h => absurd h.2.2.1 (of_decide_eq_false HA.out))).symm
  case true =>
  cases hr
  case false =>
    go_enter Try.func19, Try.ntmps19
    go_wp2_with (first
      | (go_at_call 36; refine (pknown_lit 6 true _ HK.out).mono ?_; rintro e w' ⟨rfl, rfl⟩)
      | (go_at_call 37; (with_reducible refine (isword_lit at_ _ _ HA.out).mono ?_); rintro e w' ⟨rfl, rfl⟩)
      | (go_at_call 37; (with_reducible refine (isword_lit ra _ _ HR.out).mono ?_); rintro e w' ⟨rfl, rfl⟩))
    go_ret
    refine ⟨ret_bool ?_, (Below.refl _ _).alloc (Nat.le_refl _) _⟩
    rw [← HB.out]
    exact (decide_eq_false (fun h => absurd h.2.2.2.1 (of_decide_eq_false HR.out))).symm
  case true =>
  cases hn
  case false =>
    go_enter Try.func19, Try.ntmps19
    go_wp2_with (first
      | (go_at_call 36; refine (pknown_lit 6 true _ HK.out).mono ?_; rintro e w' ⟨rfl, rfl⟩)
      | (go_at_call 37; (with_reducible refine (isword_lit at_ _ _ HA.out).mono ?_); rintro e w' ⟨rfl, rfl⟩)
      | (go_at_call 37; (with_reducible refine (isword_lit ra _ _ HR.out).mono ?_); rintro e w' ⟨rfl, rfl⟩)
      | (go_at_call 38
         refine (pnum_6 at_ n v an orr bl wl ra rn co ob BA WA bc wc _ false HN.out).mono ?_
         rintro e w4 ⟨rfl, hb4⟩
         have HB4 : Hid (Below w.heap.size w w4) := ((Below.refl _ _).alloc (Nat.le_refl _) _).trans (hb4.mono (by simp))
         clear hb4))
    go_ret
    refine ⟨ret_bool ?_, HB4.out⟩
    rw [← HB.out]
    exact (decide_eq_false (fun h => absurd h.2.2.2.2 (of_decide_eq_false HN.out))).symm
  case true =>
    go_enter Try.func19, Try.ntmps19
    go_wp2_with (first
      | (go_at_call 36; refine (pknown_lit 6 true _ HK.out).mono ?_; rintro e w' ⟨rfl, rfl⟩)
      | (go_at_call 37; (with_reducible refine (isword_lit at_ _ _ HA.out).mono ?_); rintro e w' ⟨rfl, rfl⟩)
      | (go_at_call 37; (with_reducible refine (isword_lit ra _ _ HR.out).mono ?_); rintro e w' ⟨rfl, rfl⟩)
      | (go_at_call 38
         refine (pnum_6 at_ n v an orr bl wl ra rn co ob BA WA bc wc _ true HN.out).mono ?_
         rintro e w4 ⟨rfl, hb4⟩
         have HB4 : Hid (Below w.heap.size w w4) := ((Below.refl _ _).alloc (Nat.le_refl _) _).trans (hb4.mono (by simp))
         have hk4 : Below (w.heap.size + 1) (w.alloc (.cells #[.int .i64 6, .int .i64 at_, .int .i64 n, .int .u16 v, .int .u16 an, .int .u16 orr, .slice BA bl bc, .slice WA wl wc, .int .i64 ra, .int .i64 rn, .int .i64 co, .int .i64 ob] 30)) w4 := by
           rwa [show (w.alloc (.cells #[.int .i64 6, .int .i64 at_, .int .i64 n, .int .u16 v, .int .u16 an, .int .u16 orr, .slice BA bl bc, .slice WA wl wc, .int .i64 ra, .int .i64 rn, .int .i64 co, .int .i64 ob] 30)).heap.size = w.heap.size + 1 by simp] at hb4
         obtain ⟨hc0, hc1, hc2, hc3, hc4, hc5, hc6, hc7, hc8, hc9, hc10, hc11⟩ := box12 _ _ _ _ _ _ _ _ _ _ _ _ _ w w4 hk4
         clear hb4 hk4)
      | (go_at_call 39
         refine (pbare_6 at_ n v an orr bl wl ra rn co ob BA WA bc wc _ hp HW.out HP.out).mono ?_
         rintro e w5 ⟨rfl, hb5⟩
         have HB5 : Hid (Below w.heap.size w w5) := HB4.out.trans (hb5.mono HB4.out.size)
         clear hb5))
    go_ret
    refine ⟨ret_bool ?_, HB5.out⟩
    rw [← HB.out, ← HP.out, Bool.eq_iff_iff]
    simp only [decide_eq_true_eq]
    exact ⟨fun h => ⟨rfl, h, of_decide_eq_true HA.out, of_decide_eq_true HR.out, of_decide_eq_true HN.out⟩, fun h => h.2.1⟩

set_option maxHeartbeats 1000000 in
theorem pright_15 (at_ n v an orr : Int) (bl wl : Nat) (ra rn co ob : Int) (BA WA : Option Addr) (bc wc : Nat) (w : World) (b : Bool) (hw : Wide at_ n v an orr ra rn co ob) (hb : decide (rightP 15 at_ n v an orr bl wl ra rn co ob) = b) :
    Calls Try.prog 19 #[.agg #[.int .i64 15, .int .i64 at_, .int .i64 n, .int .u16 v, .int .u16 an, .int .u16 orr, .slice BA bl bc, .slice WA wl wc, .int .i64 ra, .int .i64 rn, .int .i64 co, .int .i64 ob]] w fun e w' => e = .returned (.bool b) ∧ Below w.heap.size w w' := by
  have HB := Lib.hid hb
  have HW := Lib.hid hw
  clear hb hw
  have HK : Hid (kKnown 15 = true) := rfl
  obtain ⟨ha, hHA⟩ : ∃ c, decide (0 ≤ at_ ∧ at_ ≤ 65535) = c := ⟨_, rfl⟩
  obtain ⟨hr, hHR⟩ : ∃ c, decide (0 ≤ ra ∧ ra ≤ 65535) = c := ⟨_, rfl⟩
  obtain ⟨hn, hHN⟩ : ∃ c, decide (fitsP 15 at_ n v an orr bl wl ra rn co ob) = c := ⟨_, rfl⟩
  obtain ⟨hp, hHP⟩ : ∃ c, decide (plainP 15 at_ n v an orr bl wl ra rn co ob) = c := ⟨_, rfl⟩
  have HA := Lib.hid hHA
  have HR := Lib.hid hHR
  have HN := Lib.hid hHN
  have HP := Lib.hid hHP
  clear hHA hHR hHN hHP
  cases ha
  case false =>
    go_enter Try.func19, Try.ntmps19
    go_wp2_with (first
      | (go_at_call 36; refine (pknown_lit 15 true _ HK.out).mono ?_; rintro e w' ⟨rfl, rfl⟩)
      | (go_at_call 37; (with_reducible refine (isword_lit at_ _ _ HA.out).mono ?_); rintro e w' ⟨rfl, rfl⟩))
    go_ret
    refine ⟨ret_bool ?_, (Below.refl _ _).alloc (Nat.le_refl _) _⟩
    rw [← HB.out]
    exact (decide_eq_false (fun h => absurd h.2.2.1 (of_decide_eq_false HA.out))).symm
  case true =>
  cases hr
  case false =>
    go_enter Try.func19, Try.ntmps19
    go_wp2_with (first
      | (go_at_call 36; refine (pknown_lit 15 true _ HK.out).mono ?_; rintro e w' ⟨rfl, rfl⟩)
      | (go_at_call 37; (with_reducible refine (isword_lit at_ _ _ HA.out).mono ?_); rintro e w' ⟨rfl, rfl⟩)
      | (go_at_call 37; (with_reducible refine (isword_lit ra _ _ HR.out).mono ?_); rintro e w' ⟨rfl, rfl⟩))
    go_ret
    refine ⟨ret_bool ?_, (Below.refl _ _).alloc (Nat.le_refl _) _⟩
    rw [← HB.out]
    exact (decide_eq_false (fun h => absurd h.2.2.2.1 (of_decide_eq_false HR.out))).symm
  case true =>
  cases hn
  case false =>
    go_enter Try.func19, Try.ntmps19
    go_wp2_with (first
      | (go_at_call 36; refine (pknown_lit 15 true _ HK.out).mono ?_; rintro e w' ⟨rfl, rfl⟩)
      | (go_at_call 37; (with_reducible refine (isword_lit at_ _ _ HA.out).mono ?_); rintro e w' ⟨rfl, rfl⟩)
      | (go_at_call 37; (with_reducible refine (isword_lit ra _ _ HR.out).mono ?_); rintro e w' ⟨rfl, rfl⟩)
      | (go_at_call 38
         refine (pnum_15 at_ n v an orr bl wl ra rn co ob BA WA bc wc _ false HN.out).mono ?_
         rintro e w4 ⟨rfl, hb4⟩
         have HB4 : Hid (Below w.heap.size w w4) := ((Below.refl _ _).alloc (Nat.le_refl _) _).trans (hb4.mono (by simp))
         clear hb4))
    go_ret
    refine ⟨ret_bool ?_, HB4.out⟩
    rw [← HB.out]
    exact (decide_eq_false (fun h => absurd h.2.2.2.2 (of_decide_eq_false HN.out))).symm
  case true =>
    go_enter Try.func19, Try.ntmps19
    go_wp2_with (first
      | (go_at_call 36; refine (pknown_lit 15 true _ HK.out).mono ?_; rintro e w' ⟨rfl, rfl⟩)
      | (go_at_call 37; (with_reducible refine (isword_lit at_ _ _ HA.out).mono ?_); rintro e w' ⟨rfl, rfl⟩)
      | (go_at_call 37; (with_reducible refine (isword_lit ra _ _ HR.out).mono ?_); rintro e w' ⟨rfl, rfl⟩)
      | (go_at_call 38
         refine (pnum_15 at_ n v an orr bl wl ra rn co ob BA WA bc wc _ true HN.out).mono ?_
         rintro e w4 ⟨rfl, hb4⟩
         have HB4 : Hid (Below w.heap.size w w4) := ((Below.refl _ _).alloc (Nat.le_refl _) _).trans (hb4.mono (by simp))
         have hk4 : Below (w.heap.size + 1) (w.alloc (.cells #[.int .i64 15, .int .i64 at_, .int .i64 n, .int .u16 v, .int .u16 an, .int .u16 orr, .slice BA bl bc, .slice WA wl wc, .int .i64 ra, .int .i64 rn, .int .i64 co, .int .i64 ob] 30)) w4 := by
           rwa [show (w.alloc (.cells #[.int .i64 15, .int .i64 at_, .int .i64 n, .int .u16 v, .int .u16 an, .int .u16 orr, .slice BA bl bc, .slice WA wl wc, .int .i64 ra, .int .i64 rn, .int .i64 co, .int .i64 ob] 30)).heap.size = w.heap.size + 1 by simp] at hb4
         obtain ⟨hc0, hc1, hc2, hc3, hc4, hc5, hc6, hc7, hc8, hc9, hc10, hc11⟩ := box12 _ _ _ _ _ _ _ _ _ _ _ _ _ w w4 hk4
         clear hb4 hk4)
      | (go_at_call 39
         refine (pbare_15 at_ n v an orr bl wl ra rn co ob BA WA bc wc _ hp HW.out HP.out).mono ?_
         rintro e w5 ⟨rfl, hb5⟩
         have HB5 : Hid (Below w.heap.size w w5) := HB4.out.trans (hb5.mono HB4.out.size)
         clear hb5))
    go_ret
    refine ⟨ret_bool ?_, HB5.out⟩
    rw [← HB.out, ← HP.out, Bool.eq_iff_iff]
    simp only [decide_eq_true_eq]
    exact ⟨fun h => ⟨rfl, h, of_decide_eq_true HA.out, of_decide_eq_true HR.out, of_decide_eq_true HN.out⟩, fun h => h.2.1⟩

set_option maxHeartbeats 1000000 in
theorem pright_16 (at_ n v an orr : Int) (bl wl : Nat) (ra rn co ob : Int) (BA WA : Option Addr) (bc wc : Nat) (w : World) (b : Bool) (hw : Wide at_ n v an orr ra rn co ob) (hb : decide (rightP 16 at_ n v an orr bl wl ra rn co ob) = b) :
    Calls Try.prog 19 #[.agg #[.int .i64 16, .int .i64 at_, .int .i64 n, .int .u16 v, .int .u16 an, .int .u16 orr, .slice BA bl bc, .slice WA wl wc, .int .i64 ra, .int .i64 rn, .int .i64 co, .int .i64 ob]] w fun e w' => e = .returned (.bool b) ∧ Below w.heap.size w w' := by
  have HB := Lib.hid hb
  have HW := Lib.hid hw
  clear hb hw
  have HK : Hid (kKnown 16 = true) := rfl
  obtain ⟨ha, hHA⟩ : ∃ c, decide (0 ≤ at_ ∧ at_ ≤ 65535) = c := ⟨_, rfl⟩
  obtain ⟨hr, hHR⟩ : ∃ c, decide (0 ≤ ra ∧ ra ≤ 65535) = c := ⟨_, rfl⟩
  obtain ⟨hn, hHN⟩ : ∃ c, decide (fitsP 16 at_ n v an orr bl wl ra rn co ob) = c := ⟨_, rfl⟩
  obtain ⟨hp, hHP⟩ : ∃ c, decide (plainP 16 at_ n v an orr bl wl ra rn co ob) = c := ⟨_, rfl⟩
  have HA := Lib.hid hHA
  have HR := Lib.hid hHR
  have HN := Lib.hid hHN
  have HP := Lib.hid hHP
  clear hHA hHR hHN hHP
  cases ha
  case false =>
    go_enter Try.func19, Try.ntmps19
    go_wp2_with (first
      | (go_at_call 36; refine (pknown_lit 16 true _ HK.out).mono ?_; rintro e w' ⟨rfl, rfl⟩)
      | (go_at_call 37; (with_reducible refine (isword_lit at_ _ _ HA.out).mono ?_); rintro e w' ⟨rfl, rfl⟩))
    go_ret
    refine ⟨ret_bool ?_, (Below.refl _ _).alloc (Nat.le_refl _) _⟩
    rw [← HB.out]
    exact (decide_eq_false (fun h => absurd h.2.2.1 (of_decide_eq_false HA.out))).symm
  case true =>
  cases hr
  case false =>
    go_enter Try.func19, Try.ntmps19
    go_wp2_with (first
      | (go_at_call 36; refine (pknown_lit 16 true _ HK.out).mono ?_; rintro e w' ⟨rfl, rfl⟩)
      | (go_at_call 37; (with_reducible refine (isword_lit at_ _ _ HA.out).mono ?_); rintro e w' ⟨rfl, rfl⟩)
      | (go_at_call 37; (with_reducible refine (isword_lit ra _ _ HR.out).mono ?_); rintro e w' ⟨rfl, rfl⟩))
    go_ret
    refine ⟨ret_bool ?_, (Below.refl _ _).alloc (Nat.le_refl _) _⟩
    rw [← HB.out]
    exact (decide_eq_false (fun h => absurd h.2.2.2.1 (of_decide_eq_false HR.out))).symm
  case true =>
  cases hn
  case false =>
    go_enter Try.func19, Try.ntmps19
    go_wp2_with (first
      | (go_at_call 36; refine (pknown_lit 16 true _ HK.out).mono ?_; rintro e w' ⟨rfl, rfl⟩)
      | (go_at_call 37; (with_reducible refine (isword_lit at_ _ _ HA.out).mono ?_); rintro e w' ⟨rfl, rfl⟩)
      | (go_at_call 37; (with_reducible refine (isword_lit ra _ _ HR.out).mono ?_); rintro e w' ⟨rfl, rfl⟩)
      | (go_at_call 38
         refine (pnum_16 at_ n v an orr bl wl ra rn co ob BA WA bc wc _ false HN.out).mono ?_
         rintro e w4 ⟨rfl, hb4⟩
         have HB4 : Hid (Below w.heap.size w w4) := ((Below.refl _ _).alloc (Nat.le_refl _) _).trans (hb4.mono (by simp))
         clear hb4))
    go_ret
    refine ⟨ret_bool ?_, HB4.out⟩
    rw [← HB.out]
    exact (decide_eq_false (fun h => absurd h.2.2.2.2 (of_decide_eq_false HN.out))).symm
  case true =>
    go_enter Try.func19, Try.ntmps19
    go_wp2_with (first
      | (go_at_call 36; refine (pknown_lit 16 true _ HK.out).mono ?_; rintro e w' ⟨rfl, rfl⟩)
      | (go_at_call 37; (with_reducible refine (isword_lit at_ _ _ HA.out).mono ?_); rintro e w' ⟨rfl, rfl⟩)
      | (go_at_call 37; (with_reducible refine (isword_lit ra _ _ HR.out).mono ?_); rintro e w' ⟨rfl, rfl⟩)
      | (go_at_call 38
         refine (pnum_16 at_ n v an orr bl wl ra rn co ob BA WA bc wc _ true HN.out).mono ?_
         rintro e w4 ⟨rfl, hb4⟩
         have HB4 : Hid (Below w.heap.size w w4) := ((Below.refl _ _).alloc (Nat.le_refl _) _).trans (hb4.mono (by simp))
         have hk4 : Below (w.heap.size + 1) (w.alloc (.cells #[.int .i64 16, .int .i64 at_, .int .i64 n, .int .u16 v, .int .u16 an, .int .u16 orr, .slice BA bl bc, .slice WA wl wc, .int .i64 ra, .int .i64 rn, .int .i64 co, .int .i64 ob] 30)) w4 := by
           rwa [show (w.alloc (.cells #[.int .i64 16, .int .i64 at_, .int .i64 n, .int .u16 v, .int .u16 an, .int .u16 orr, .slice BA bl bc, .slice WA wl wc, .int .i64 ra, .int .i64 rn, .int .i64 co, .int .i64 ob] 30)).heap.size = w.heap.size + 1 by simp] at hb4
         obtain ⟨hc0, hc1, hc2, hc3, hc4, hc5, hc6, hc7, hc8, hc9, hc10, hc11⟩ := box12 _ _ _ _ _ _ _ _ _ _ _ _ _ w w4 hk4
         clear hb4 hk4)
      | (go_at_call 39
         refine (pbare_16 at_ n v an orr bl wl ra rn co ob BA WA bc wc _ hp HW.out HP.out).mono ?_
         rintro e w5 ⟨rfl, hb5⟩
         have HB5 : Hid (Below w.heap.size w w5) := HB4.out.trans (hb5.mono HB4.out.size)
         clear hb5))
    go_ret
    refine ⟨ret_bool ?_, HB5.out⟩
    rw [← HB.out, ← HP.out, Bool.eq_iff_iff]
    simp only [decide_eq_true_eq]
    exact ⟨fun h => ⟨rfl, h, of_decide_eq_true HA.out, of_decide_eq_true HR.out, of_decide_eq_true HN.out⟩, fun h => h.2.1⟩

set_option maxHeartbeats 1000000 in
theorem pright_22 (at_ n v an orr : Int) (bl wl : Nat) (ra rn co ob : Int) (BA WA : Option Addr) (bc wc : Nat) (w : World) (b : Bool) (hw : Wide at_ n v an orr ra rn co ob) (hb : decide (rightP 22 at_ n v an orr bl wl ra rn co ob) = b) :
    Calls Try.prog 19 #[.agg #[.int .i64 22, .int .i64 at_, .int .i64 n, .int .u16 v, .int .u16 an, .int .u16 orr, .slice BA bl bc, .slice WA wl wc, .int .i64 ra, .int .i64 rn, .int .i64 co, .int .i64 ob]] w fun e w' => e = .returned (.bool b) ∧ Below w.heap.size w w' := by
  have HB := Lib.hid hb
  have HW := Lib.hid hw
  clear hb hw
  have HK : Hid (kKnown 22 = true) := rfl
  obtain ⟨ha, hHA⟩ : ∃ c, decide (0 ≤ at_ ∧ at_ ≤ 65535) = c := ⟨_, rfl⟩
  obtain ⟨hr, hHR⟩ : ∃ c, decide (0 ≤ ra ∧ ra ≤ 65535) = c := ⟨_, rfl⟩
  obtain ⟨hn, hHN⟩ : ∃ c, decide (fitsP 22 at_ n v an orr bl wl ra rn co ob) = c := ⟨_, rfl⟩
  obtain ⟨hp, hHP⟩ : ∃ c, decide (plainP 22 at_ n v an orr bl wl ra rn co ob) = c := ⟨_, rfl⟩
  have HA := Lib.hid hHA
  have HR := Lib.hid hHR
  have HN := Lib.hid hHN
  have HP := Lib.hid hHP
  clear hHA hHR hHN hHP
  cases ha
  case false =>
    go_enter Try.func19, Try.ntmps19
    go_wp2_with (first
      | (go_at_call 36; refine (pknown_lit 22 true _ HK.out).mono ?_; rintro e w' ⟨rfl, rfl⟩)
      | (go_at_call 37; (with_reducible refine (isword_lit at_ _ _ HA.out).mono ?_); rintro e w' ⟨rfl, rfl⟩))
    go_ret
    refine ⟨ret_bool ?_, (Below.refl _ _).alloc (Nat.le_refl _) _⟩
    rw [← HB.out]
    exact (decide_eq_false (fun h => absurd h.2.2.1 (of_decide_eq_false HA.out))).symm
  case true =>
  cases hr
  case false =>
    go_enter Try.func19, Try.ntmps19
    go_wp2_with (first
      | (go_at_call 36; refine (pknown_lit 22 true _ HK.out).mono ?_; rintro e w' ⟨rfl, rfl⟩)
      | (go_at_call 37; (with_reducible refine (isword_lit at_ _ _ HA.out).mono ?_); rintro e w' ⟨rfl, rfl⟩)
      | (go_at_call 37; (with_reducible refine (isword_lit ra _ _ HR.out).mono ?_); rintro e w' ⟨rfl, rfl⟩))
    go_ret
    refine ⟨ret_bool ?_, (Below.refl _ _).alloc (Nat.le_refl _) _⟩
    rw [← HB.out]
    exact (decide_eq_false (fun h => absurd h.2.2.2.1 (of_decide_eq_false HR.out))).symm
  case true =>
  cases hn
  case false =>
    go_enter Try.func19, Try.ntmps19
    go_wp2_with (first
      | (go_at_call 36; refine (pknown_lit 22 true _ HK.out).mono ?_; rintro e w' ⟨rfl, rfl⟩)
      | (go_at_call 37; (with_reducible refine (isword_lit at_ _ _ HA.out).mono ?_); rintro e w' ⟨rfl, rfl⟩)
      | (go_at_call 37; (with_reducible refine (isword_lit ra _ _ HR.out).mono ?_); rintro e w' ⟨rfl, rfl⟩)
      | (go_at_call 38
         refine (pnum_22 at_ n v an orr bl wl ra rn co ob BA WA bc wc _ false HN.out).mono ?_
         rintro e w4 ⟨rfl, hb4⟩
         have HB4 : Hid (Below w.heap.size w w4) := ((Below.refl _ _).alloc (Nat.le_refl _) _).trans (hb4.mono (by simp))
         clear hb4))
    go_ret
    refine ⟨ret_bool ?_, HB4.out⟩
    rw [← HB.out]
    exact (decide_eq_false (fun h => absurd h.2.2.2.2 (of_decide_eq_false HN.out))).symm
  case true =>
    go_enter Try.func19, Try.ntmps19
    go_wp2_with (first
      | (go_at_call 36; refine (pknown_lit 22 true _ HK.out).mono ?_; rintro e w' ⟨rfl, rfl⟩)
      | (go_at_call 37; (with_reducible refine (isword_lit at_ _ _ HA.out).mono ?_); rintro e w' ⟨rfl, rfl⟩)
      | (go_at_call 37; (with_reducible refine (isword_lit ra _ _ HR.out).mono ?_); rintro e w' ⟨rfl, rfl⟩)
      | (go_at_call 38
         refine (pnum_22 at_ n v an orr bl wl ra rn co ob BA WA bc wc _ true HN.out).mono ?_
         rintro e w4 ⟨rfl, hb4⟩
         have HB4 : Hid (Below w.heap.size w w4) := ((Below.refl _ _).alloc (Nat.le_refl _) _).trans (hb4.mono (by simp))
         have hk4 : Below (w.heap.size + 1) (w.alloc (.cells #[.int .i64 22, .int .i64 at_, .int .i64 n, .int .u16 v, .int .u16 an, .int .u16 orr, .slice BA bl bc, .slice WA wl wc, .int .i64 ra, .int .i64 rn, .int .i64 co, .int .i64 ob] 30)) w4 := by
           rwa [show (w.alloc (.cells #[.int .i64 22, .int .i64 at_, .int .i64 n, .int .u16 v, .int .u16 an, .int .u16 orr, .slice BA bl bc, .slice WA wl wc, .int .i64 ra, .int .i64 rn, .int .i64 co, .int .i64 ob] 30)).heap.size = w.heap.size + 1 by simp] at hb4
         obtain ⟨hc0, hc1, hc2, hc3, hc4, hc5, hc6, hc7, hc8, hc9, hc10, hc11⟩ := box12 _ _ _ _ _ _ _ _ _ _ _ _ _ w w4 hk4
         clear hb4 hk4)
      | (go_at_call 39
         refine (pbare_22 at_ n v an orr bl wl ra rn co ob BA WA bc wc _ hp HW.out HP.out).mono ?_
         rintro e w5 ⟨rfl, hb5⟩
         have HB5 : Hid (Below w.heap.size w w5) := HB4.out.trans (hb5.mono HB4.out.size)
         clear hb5))
    go_ret
    refine ⟨ret_bool ?_, HB5.out⟩
    rw [← HB.out, ← HP.out, Bool.eq_iff_iff]
    simp only [decide_eq_true_eq]
    exact ⟨fun h => ⟨rfl, h, of_decide_eq_true HA.out, of_decide_eq_true HR.out, of_decide_eq_true HN.out⟩, fun h => h.2.1⟩

set_option maxHeartbeats 1000000 in
theorem pright_23 (at_ n v an orr : Int) (bl wl : Nat) (ra rn co ob : Int) (BA WA : Option Addr) (bc wc : Nat) (w : World) (b : Bool) (hw : Wide at_ n v an orr ra rn co ob) (hb : decide (rightP 23 at_ n v an orr bl wl ra rn co ob) = b) :
    Calls Try.prog 19 #[.agg #[.int .i64 23, .int .i64 at_, .int .i64 n, .int .u16 v, .int .u16 an, .int .u16 orr, .slice BA bl bc, .slice WA wl wc, .int .i64 ra, .int .i64 rn, .int .i64 co, .int .i64 ob]] w fun e w' => e = .returned (.bool b) ∧ Below w.heap.size w w' := by
  have HB := Lib.hid hb
  have HW := Lib.hid hw
  clear hb hw
  have HK : Hid (kKnown 23 = true) := rfl
  obtain ⟨ha, hHA⟩ : ∃ c, decide (0 ≤ at_ ∧ at_ ≤ 65535) = c := ⟨_, rfl⟩
  obtain ⟨hr, hHR⟩ : ∃ c, decide (0 ≤ ra ∧ ra ≤ 65535) = c := ⟨_, rfl⟩
  obtain ⟨hn, hHN⟩ : ∃ c, decide (fitsP 23 at_ n v an orr bl wl ra rn co ob) = c := ⟨_, rfl⟩
  obtain ⟨hp, hHP⟩ : ∃ c, decide (plainP 23 at_ n v an orr bl wl ra rn co ob) = c := ⟨_, rfl⟩
  have HA := Lib.hid hHA
  have HR := Lib.hid hHR
  have HN := Lib.hid hHN
  have HP := Lib.hid hHP
  clear hHA hHR hHN hHP
  cases ha
  case false =>
    go_enter Try.func19, Try.ntmps19
    go_wp2_with (first
      | (go_at_call 36; refine (pknown_lit 23 true _ HK.out).mono ?_; rintro e w' ⟨rfl, rfl⟩)
      | (go_at_call 37; (with_reducible refine (isword_lit at_ _ _ HA.out).mono ?_); rintro e w' ⟨rfl, rfl⟩))
    go_ret
    refine ⟨ret_bool ?_, (Below.refl _ _).alloc (Nat.le_refl _) _⟩
    rw [← HB.out]
    exact (decide_eq_false (fun h => absurd h.2.2.1 (of_decide_eq_false HA.out))).symm
  case true =>
  cases hr
  case false =>
    go_enter Try.func19, Try.ntmps19
    go_wp2_with (first
      | (go_at_call 36; refine (pknown_lit 23 true _ HK.out).mono ?_; rintro e w' ⟨rfl, rfl⟩)
      | (go_at_call 37; (with_reducible refine (isword_lit at_ _ _ HA.out).mono ?_); rintro e w' ⟨rfl, rfl⟩)
      | (go_at_call 37; (with_reducible refine (isword_lit ra _ _ HR.out).mono ?_); rintro e w' ⟨rfl, rfl⟩))
    go_ret
    refine ⟨ret_bool ?_, (Below.refl _ _).alloc (Nat.le_refl _) _⟩
    rw [← HB.out]
    exact (decide_eq_false (fun h => absurd h.2.2.2.1 (of_decide_eq_false HR.out))).symm
  case true =>
  cases hn
  case false =>
    go_enter Try.func19, Try.ntmps19
    go_wp2_with (first
      | (go_at_call 36; refine (pknown_lit 23 true _ HK.out).mono ?_; rintro e w' ⟨rfl, rfl⟩)
      | (go_at_call 37; (with_reducible refine (isword_lit at_ _ _ HA.out).mono ?_); rintro e w' ⟨rfl, rfl⟩)
      | (go_at_call 37; (with_reducible refine (isword_lit ra _ _ HR.out).mono ?_); rintro e w' ⟨rfl, rfl⟩)
      | (go_at_call 38
         refine (pnum_23 at_ n v an orr bl wl ra rn co ob BA WA bc wc _ false HN.out).mono ?_
         rintro e w4 ⟨rfl, hb4⟩
         have HB4 : Hid (Below w.heap.size w w4) := ((Below.refl _ _).alloc (Nat.le_refl _) _).trans (hb4.mono (by simp))
         clear hb4))
    go_ret
    refine ⟨ret_bool ?_, HB4.out⟩
    rw [← HB.out]
    exact (decide_eq_false (fun h => absurd h.2.2.2.2 (of_decide_eq_false HN.out))).symm
  case true =>
    go_enter Try.func19, Try.ntmps19
    go_wp2_with (first
      | (go_at_call 36; refine (pknown_lit 23 true _ HK.out).mono ?_; rintro e w' ⟨rfl, rfl⟩)
      | (go_at_call 37; (with_reducible refine (isword_lit at_ _ _ HA.out).mono ?_); rintro e w' ⟨rfl, rfl⟩)
      | (go_at_call 37; (with_reducible refine (isword_lit ra _ _ HR.out).mono ?_); rintro e w' ⟨rfl, rfl⟩)
      | (go_at_call 38
         refine (pnum_23 at_ n v an orr bl wl ra rn co ob BA WA bc wc _ true HN.out).mono ?_
         rintro e w4 ⟨rfl, hb4⟩
         have HB4 : Hid (Below w.heap.size w w4) := ((Below.refl _ _).alloc (Nat.le_refl _) _).trans (hb4.mono (by simp))
         have hk4 : Below (w.heap.size + 1) (w.alloc (.cells #[.int .i64 23, .int .i64 at_, .int .i64 n, .int .u16 v, .int .u16 an, .int .u16 orr, .slice BA bl bc, .slice WA wl wc, .int .i64 ra, .int .i64 rn, .int .i64 co, .int .i64 ob] 30)) w4 := by
           rwa [show (w.alloc (.cells #[.int .i64 23, .int .i64 at_, .int .i64 n, .int .u16 v, .int .u16 an, .int .u16 orr, .slice BA bl bc, .slice WA wl wc, .int .i64 ra, .int .i64 rn, .int .i64 co, .int .i64 ob] 30)).heap.size = w.heap.size + 1 by simp] at hb4
         obtain ⟨hc0, hc1, hc2, hc3, hc4, hc5, hc6, hc7, hc8, hc9, hc10, hc11⟩ := box12 _ _ _ _ _ _ _ _ _ _ _ _ _ w w4 hk4
         clear hb4 hk4)
      | (go_at_call 39
         refine (pbare_23 at_ n v an orr bl wl ra rn co ob BA WA bc wc _ hp HW.out HP.out).mono ?_
         rintro e w5 ⟨rfl, hb5⟩
         have HB5 : Hid (Below w.heap.size w w5) := HB4.out.trans (hb5.mono HB4.out.size)
         clear hb5))
    go_ret
    refine ⟨ret_bool ?_, HB5.out⟩
    rw [← HB.out, ← HP.out, Bool.eq_iff_iff]
    simp only [decide_eq_true_eq]
    exact ⟨fun h => ⟨rfl, h, of_decide_eq_true HA.out, of_decide_eq_true HR.out, of_decide_eq_true HN.out⟩, fun h => h.2.1⟩

set_option maxHeartbeats 1000000 in
theorem pright_43 (at_ n v an orr : Int) (bl wl : Nat) (ra rn co ob : Int) (BA WA : Option Addr) (bc wc : Nat) (w : World) (b : Bool) (hw : Wide at_ n v an orr ra rn co ob) (hb : decide (rightP 43 at_ n v an orr bl wl ra rn co ob) = b) :
    Calls Try.prog 19 #[.agg #[.int .i64 43, .int .i64 at_, .int .i64 n, .int .u16 v, .int .u16 an, .int .u16 orr, .slice BA bl bc, .slice WA wl wc, .int .i64 ra, .int .i64 rn, .int .i64 co, .int .i64 ob]] w fun e w' => e = .returned (.bool b) ∧ Below w.heap.size w w' := by
  have HB := Lib.hid hb
  have HW := Lib.hid hw
  clear hb hw
  have HK : Hid (kKnown 43 = true) := rfl
  obtain ⟨ha, hHA⟩ : ∃ c, decide (0 ≤ at_ ∧ at_ ≤ 65535) = c := ⟨_, rfl⟩
  obtain ⟨hr, hHR⟩ : ∃ c, decide (0 ≤ ra ∧ ra ≤ 65535) = c := ⟨_, rfl⟩
  obtain ⟨hn, hHN⟩ : ∃ c, decide (fitsP 43 at_ n v an orr bl wl ra rn co ob) = c := ⟨_, rfl⟩
  obtain ⟨hp, hHP⟩ : ∃ c, decide (plainP 43 at_ n v an orr bl wl ra rn co ob) = c := ⟨_, rfl⟩
  have HA := Lib.hid hHA
  have HR := Lib.hid hHR
  have HN := Lib.hid hHN
  have HP := Lib.hid hHP
  clear hHA hHR hHN hHP
  cases ha
  case false =>
    go_enter Try.func19, Try.ntmps19
    go_wp2_with (first
      | (go_at_call 36; refine (pknown_lit 43 true _ HK.out).mono ?_; rintro e w' ⟨rfl, rfl⟩)
      | (go_at_call 37; (with_reducible refine (isword_lit at_ _ _ HA.out).mono ?_); rintro e w' ⟨rfl, rfl⟩))
    go_ret
    refine ⟨ret_bool ?_, (Below.refl _ _).alloc (Nat.le_refl _) _⟩
    rw [← HB.out]
    exact (decide_eq_false (fun h => absurd h.2.2.1 (of_decide_eq_false HA.out))).symm
  case true =>
  cases hr
  case false =>
    go_enter Try.func19, Try.ntmps19
    go_wp2_with (first
      | (go_at_call 36; refine (pknown_lit 43 true _ HK.out).mono ?_; rintro e w' ⟨rfl, rfl⟩)
      | (go_at_call 37; (with_reducible refine (isword_lit at_ _ _ HA.out).mono ?_); rintro e w' ⟨rfl, rfl⟩)
      | (go_at_call 37; (with_reducible refine (isword_lit ra _ _ HR.out).mono ?_); rintro e w' ⟨rfl, rfl⟩))
    go_ret
    refine ⟨ret_bool ?_, (Below.refl _ _).alloc (Nat.le_refl _) _⟩
    rw [← HB.out]
    exact (decide_eq_false (fun h => absurd h.2.2.2.1 (of_decide_eq_false HR.out))).symm
  case true =>
  cases hn
  case false =>
    go_enter Try.func19, Try.ntmps19
    go_wp2_with (first
      | (go_at_call 36; refine (pknown_lit 43 true _ HK.out).mono ?_; rintro e w' ⟨rfl, rfl⟩)
      | (go_at_call 37; (with_reducible refine (isword_lit at_ _ _ HA.out).mono ?_); rintro e w' ⟨rfl, rfl⟩)
      | (go_at_call 37; (with_reducible refine (isword_lit ra _ _ HR.out).mono ?_); rintro e w' ⟨rfl, rfl⟩)
      | (go_at_call 38
         refine (pnum_43 at_ n v an orr bl wl ra rn co ob BA WA bc wc _ false HN.out).mono ?_
         rintro e w4 ⟨rfl, hb4⟩
         have HB4 : Hid (Below w.heap.size w w4) := ((Below.refl _ _).alloc (Nat.le_refl _) _).trans (hb4.mono (by simp))
         clear hb4))
    go_ret
    refine ⟨ret_bool ?_, HB4.out⟩
    rw [← HB.out]
    exact (decide_eq_false (fun h => absurd h.2.2.2.2 (of_decide_eq_false HN.out))).symm
  case true =>
    go_enter Try.func19, Try.ntmps19
    go_wp2_with (first
      | (go_at_call 36; refine (pknown_lit 43 true _ HK.out).mono ?_; rintro e w' ⟨rfl, rfl⟩)
      | (go_at_call 37; (with_reducible refine (isword_lit at_ _ _ HA.out).mono ?_); rintro e w' ⟨rfl, rfl⟩)
      | (go_at_call 37; (with_reducible refine (isword_lit ra _ _ HR.out).mono ?_); rintro e w' ⟨rfl, rfl⟩)
      | (go_at_call 38
         refine (pnum_43 at_ n v an orr bl wl ra rn co ob BA WA bc wc _ true HN.out).mono ?_
         rintro e w4 ⟨rfl, hb4⟩
         have HB4 : Hid (Below w.heap.size w w4) := ((Below.refl _ _).alloc (Nat.le_refl _) _).trans (hb4.mono (by simp))
         have hk4 : Below (w.heap.size + 1) (w.alloc (.cells #[.int .i64 43, .int .i64 at_, .int .i64 n, .int .u16 v, .int .u16 an, .int .u16 orr, .slice BA bl bc, .slice WA wl wc, .int .i64 ra, .int .i64 rn, .int .i64 co, .int .i64 ob] 30)) w4 := by
           rwa [show (w.alloc (.cells #[.int .i64 43, .int .i64 at_, .int .i64 n, .int .u16 v, .int .u16 an, .int .u16 orr, .slice BA bl bc, .slice WA wl wc, .int .i64 ra, .int .i64 rn, .int .i64 co, .int .i64 ob] 30)).heap.size = w.heap.size + 1 by simp] at hb4
         obtain ⟨hc0, hc1, hc2, hc3, hc4, hc5, hc6, hc7, hc8, hc9, hc10, hc11⟩ := box12 _ _ _ _ _ _ _ _ _ _ _ _ _ w w4 hk4
         clear hb4 hk4)
      | (go_at_call 39
         refine (pbare_43 at_ n v an orr bl wl ra rn co ob BA WA bc wc _ hp HW.out HP.out).mono ?_
         rintro e w5 ⟨rfl, hb5⟩
         have HB5 : Hid (Below w.heap.size w w5) := HB4.out.trans (hb5.mono HB4.out.size)
         clear hb5))
    go_ret
    refine ⟨ret_bool ?_, HB5.out⟩
    rw [← HB.out, ← HP.out, Bool.eq_iff_iff]
    simp only [decide_eq_true_eq]
    exact ⟨fun h => ⟨rfl, h, of_decide_eq_true HA.out, of_decide_eq_true HR.out, of_decide_eq_true HN.out⟩, fun h => h.2.1⟩

theorem pright_lit (fn at_ n v an orr : Int) (bl wl : Nat) (ra rn co ob : Int) (BA WA : Option Addr) (bc wc : Nat) (w : World) (b : Bool) (hw : Wide at_ n v an orr ra rn co ob) (hb : decide (rightP fn at_ n v an orr bl wl ra rn co ob) = b) :
    Calls Try.prog 19 #[.agg #[.int .i64 fn, .int .i64 at_, .int .i64 n, .int .u16 v, .int .u16 an, .int .u16 orr, .slice BA bl bc, .slice WA wl wc, .int .i64 ra, .int .i64 rn, .int .i64 co, .int .i64 ob]] w fun e w' => e = .returned (.bool b) ∧ Below w.heap.size w w' := by
  rcases kinds fn with rfl | rfl | rfl | rfl | rfl | rfl | rfl | rfl | rfl | rfl | rfl | h
  · exact pright_1 at_ n v an orr bl wl ra rn co ob BA WA bc wc w b hw hb
  · exact pright_2 at_ n v an orr bl wl ra rn co ob BA WA bc wc w b hw hb
  · exact pright_3 at_ n v an orr bl wl ra rn co ob BA WA bc wc w b hw hb
  · exact pright_4 at_ n v an orr bl wl ra rn co ob BA WA bc wc w b hw hb
  · exact pright_5 at_ n v an orr bl wl ra rn co ob BA WA bc wc w b hw hb
  · exact pright_6 at_ n v an orr bl wl ra rn co ob BA WA bc wc w b hw hb
  · exact pright_15 at_ n v an orr bl wl ra rn co ob BA WA bc wc w b hw hb
  · exact pright_16 at_ n v an orr bl wl ra rn co ob BA WA bc wc w b hw hb
  · exact pright_22 at_ n v an orr bl wl ra rn co ob BA WA bc wc w b hw hb
  · exact pright_23 at_ n v an orr bl wl ra rn co ob BA WA bc wc w b hw hb
  · exact pright_43 at_ n v an orr bl wl ra rn co ob BA WA bc wc w b hw hb
  · rw [← hb, decide_eq_false (fun hr => by have := hr.1; rw [h.known] at this; cases this)]
    exact pright_unknown fn at_ n v an orr bl wl ra rn co ob BA WA bc wc w h.known
theorem pright_yes (fn at_ n v an orr : Int) (bl wl : Nat) (ra rn co ob : Int) (BA WA : Option Addr) (bc wc : Nat) (w : World) (hw : Wide at_ n v an orr ra rn co ob) (h : rightP fn at_ n v an orr bl wl ra rn co ob) :
    Calls Try.prog 19 #[.agg #[.int .i64 fn, .int .i64 at_, .int .i64 n, .int .u16 v, .int .u16 an, .int .u16 orr, .slice BA bl bc, .slice WA wl wc, .int .i64 ra, .int .i64 rn, .int .i64 co, .int .i64 ob]] w fun e w' => e = .returned (.bool true) ∧ Below w.heap.size w w' := pright_lit fn at_ n v an orr bl wl ra rn co ob BA WA bc wc w true hw (decide_eq_true h)
theorem pright_no (fn at_ n v an orr : Int) (bl wl : Nat) (ra rn co ob : Int) (BA WA : Option Addr) (bc wc : Nat) (w : World) (hw : Wide at_ n v an orr ra rn co ob) (h : ¬ rightP fn at_ n v an orr bl wl ra rn co ob) :
    Calls Try.prog 19 #[.agg #[.int .i64 fn, .int .i64 at_, .int .i64 n, .int .u16 v, .int .u16 an, .int .u16 orr, .slice BA bl bc, .slice WA wl wc, .int .i64 ra, .int .i64 rn, .int .i64 co, .int .i64 ob]] w fun e w' => e = .returned (.bool false) ∧ Below w.heap.size w w' := pright_lit fn at_ n v an orr bl wl ra rn co ob BA WA bc wc w false hw (decide_eq_false h)

end Go.Proofs.Ytebpilfogdenjaa

/- The document's Right of a request, whole. -/
import Derived.Test.YtielfekkonflfaaAskRight
namespace Go.Proofs.Ytielfekkonflfaa
open Go.ChangeShapes Go.WideShapes Go.ChangeAt Go.RowKit
set_option linter.unusedVariables false
set_option linter.unusedSimpArgs false

/-- The box of twelve cells, kept. -/
theorem box12 (a0 a1 a2 a3 a4 a5 a6 a7 a8 a9 a10 a11 : Value) (T : TypeId) (w W : World) (hb : Below (w.heap.size + 1) (w.alloc (.cells #[a0, a1, a2, a3, a4, a5, a6, a7, a8, a9, a10, a11] T)) W) :
    W.cell? ⟨w.heap.size, 0, none⟩ = some a0 ∧ W.cell? ⟨w.heap.size, 1, none⟩ = some a1 ∧ W.cell? ⟨w.heap.size, 2, none⟩ = some a2 ∧ W.cell? ⟨w.heap.size, 3, none⟩ = some a3 ∧ W.cell? ⟨w.heap.size, 4, none⟩ = some a4 ∧ W.cell? ⟨w.heap.size, 5, none⟩ = some a5 ∧
    W.cell? ⟨w.heap.size, 6, none⟩ = some a6 ∧ W.cell? ⟨w.heap.size, 7, none⟩ = some a7 ∧ W.cell? ⟨w.heap.size, 8, none⟩ = some a8 ∧ W.cell? ⟨w.heap.size, 9, none⟩ = some a9 ∧ W.cell? ⟨w.heap.size, 10, none⟩ = some a10 ∧ W.cell? ⟨w.heap.size, 11, none⟩ = some a11 := by
  have h := heap_alloc_new w (.cells #[a0, a1, a2, a3, a4, a5, a6, a7, a8, a9, a10, a11] T)
  refine ⟨?_, ?_, ?_, ?_, ?_, ?_, ?_, ?_, ?_, ?_, ?_, ?_⟩ <;> (rw [hb.cell (by simp), cell_of_row _ _ _ _ _ _ h]; rfl)

theorem known_lit (fn : Int) (b : Bool) (w : World) (h : kKnown fn = b) :
    Calls Try.prog 72 #[.int .i64 fn] w fun e w' => e = .returned (.bool b) ∧ w = w' := by
  subst h
  exact rknown_any fn w
theorem most_lit (fn r q : Int) (w : World) (h1 : kMostR fn = r) (h2 : kMostW fn = q) :
    Calls Try.prog 67 #[.int .i64 fn] w fun e w' => e = .returned (.tuple #[.int .i64 r, .int .i64 q]) ∧ w = w' := by
  subst h1 h2
  exact rmost_any fn w
theorem byteful_lit (u : Int) (b : Bool) (w : World) (h : decide (0 ≤ u ∧ u ≤ 255) = b) :
    Calls Try.prog 66 #[.int .i64 u] w fun e w' => e = .returned (.bool b) ∧ w = w' := by
  subst h
  by_cases h : 0 ≤ u ∧ u ≤ 255
  · rw [decide_eq_true h]; exact byteful_yes u w h.1 h.2
  · rw [decide_eq_false h]; exact byteful_no u w (by omega)
theorem plain_yes (fn at_ n v an orr : Int) (bl wl : Nat) (ra rn co ob : Int) (BA WA : Option Addr) (bc wc : Nat) (w : World) (hk : kKnown fn = true) (hp : plainP fn at_ n v an orr bl wl ra rn co ob) :
    Calls Try.prog 73 #[.agg #[.int .i64 fn, .int .i64 at_, .int .i64 n, .int .u16 v, .int .u16 an, .int .u16 orr, .slice BA bl bc, .slice WA wl wc, .int .i64 ra, .int .i64 rn, .int .i64 co, .int .i64 ob]] w fun e w' => e = .returned (.bool true) ∧ Below w.heap.size w w' := by
  have h := rplain_any fn at_ n v an orr bl wl ra rn co ob BA WA bc wc w hk
  rwa [decide_eq_true hp] at h
theorem plain_no (fn at_ n v an orr : Int) (bl wl : Nat) (ra rn co ob : Int) (BA WA : Option Addr) (bc wc : Nat) (w : World) (hk : kKnown fn = true) (hp : ¬ plainP fn at_ n v an orr bl wl ra rn co ob) :
    Calls Try.prog 73 #[.agg #[.int .i64 fn, .int .i64 at_, .int .i64 n, .int .u16 v, .int .u16 an, .int .u16 orr, .slice BA bl bc, .slice WA wl wc, .int .i64 ra, .int .i64 rn, .int .i64 co, .int .i64 ob]] w fun e w' => e = .returned (.bool false) ∧ Below w.heap.size w w' := by
  have h := rplain_any fn at_ n v an orr bl wl ra rn co ob BA WA bc wc w hk
  rwa [decide_eq_false hp] at h

theorem rright_unknown (fn at_ n v an orr : Int) (bl wl : Nat) (ra rn co ob : Int) (BA WA : Option Addr) (bc wc : Nat) (w : World) (hk : kKnown fn = false) :
    Calls Try.prog 42 #[.agg #[.int .i64 fn, .int .i64 at_, .int .i64 n, .int .u16 v, .int .u16 an, .int .u16 orr, .slice BA bl bc, .slice WA wl wc, .int .i64 ra, .int .i64 rn, .int .i64 co, .int .i64 ob]] w fun e w' => e = .returned (.bool false) ∧ Below w.heap.size w w' := by
  have HK := Lib.hid hk
  clear hk
  go_enter Try.func42, Try.ntmps42
  go_wp2_with (first
    | (go_at_call 72; refine (known_lit fn false _ HK.out).mono ?_; rintro e w' ⟨rfl, rfl⟩))
  go_ret
  exact ⟨rfl, (Below.refl _ _).alloc (Nat.le_refl _) _⟩

theorem rright_crowded (fn at_ n v an orr : Int) (bl wl : Nat) (ra rn co ob : Int) (BA WA : Option Addr) (bc wc : Nat) (w : World) (hk : kKnown fn = true) (hp : ¬ plainP fn at_ n v an orr bl wl ra rn co ob) :
    Calls Try.prog 42 #[.agg #[.int .i64 fn, .int .i64 at_, .int .i64 n, .int .u16 v, .int .u16 an, .int .u16 orr, .slice BA bl bc, .slice WA wl wc, .int .i64 ra, .int .i64 rn, .int .i64 co, .int .i64 ob]] w fun e w' => e = .returned (.bool false) ∧ Below w.heap.size w w' := by
  have HK := Lib.hid hk
  have HP := Lib.hid hp
  clear hk hp
  go_enter Try.func42, Try.ntmps42
  go_wp2_with (first
    | (go_at_call 72; refine (known_lit fn true _ HK.out).mono ?_; rintro e w' ⟨rfl, rfl⟩)
    | (go_at_call 73
       refine (plain_no fn at_ n v an orr bl wl ra rn co ob BA WA bc wc _ HK.out HP.out).mono ?_
       rintro e w4 ⟨rfl, hb4⟩
       have HB4 : Hid (Below w.heap.size w w4) := ((Below.refl _ _).alloc (Nat.le_refl _) _).trans (hb4.mono (by simp))
       have hk4 : Below (w.heap.size + 1) (w.alloc (.cells #[.int .i64 fn, .int .i64 at_, .int .i64 n, .int .u16 v, .int .u16 an, .int .u16 orr, .slice BA bl bc, .slice WA wl wc, .int .i64 ra, .int .i64 rn, .int .i64 co, .int .i64 ob] 48)) w4 := by
         rwa [show (w.alloc (.cells #[.int .i64 fn, .int .i64 at_, .int .i64 n, .int .u16 v, .int .u16 an, .int .u16 orr, .slice BA bl bc, .slice WA wl wc, .int .i64 ra, .int .i64 rn, .int .i64 co, .int .i64 ob] 48)).heap.size = w.heap.size + 1 by simp] at hb4
       obtain ⟨hc0, hc1, hc2, hc3, hc4, hc5, hc6, hc7, hc8, hc9, hc10, hc11⟩ := box12 _ _ _ _ _ _ _ _ _ _ _ _ _ w w4 hk4
       clear hb4 hk4))
  go_ret
  exact ⟨rfl, HB4.out⟩

theorem rright_at (fn at_ n v an orr : Int) (bl wl : Nat) (ra rn co ob : Int) (BA WA : Option Addr) (bc wc : Nat) (w : World) (hk : kKnown fn = true) (hp : plainP fn at_ n v an orr bl wl ra rn co ob) (ha : at_ < 0 ∨ 65535 < at_) :
    Calls Try.prog 42 #[.agg #[.int .i64 fn, .int .i64 at_, .int .i64 n, .int .u16 v, .int .u16 an, .int .u16 orr, .slice BA bl bc, .slice WA wl wc, .int .i64 ra, .int .i64 rn, .int .i64 co, .int .i64 ob]] w fun e w' => e = .returned (.bool false) ∧ Below w.heap.size w w' := by
  have HK := Lib.hid hk
  have HP := Lib.hid hp
  have HA := Lib.hid ha
  clear hk hp ha
  go_enter Try.func42, Try.ntmps42
  go_wp2_with (first
    | (go_at_call 72; refine (known_lit fn true _ HK.out).mono ?_; rintro e w' ⟨rfl, rfl⟩)
    | (go_at_call 73
       refine (plain_yes fn at_ n v an orr bl wl ra rn co ob BA WA bc wc _ HK.out HP.out).mono ?_
       rintro e w4 ⟨rfl, hb4⟩
       have HB4 : Hid (Below w.heap.size w w4) := ((Below.refl _ _).alloc (Nat.le_refl _) _).trans (hb4.mono (by simp))
       have hk4 : Below (w.heap.size + 1) (w.alloc (.cells #[.int .i64 fn, .int .i64 at_, .int .i64 n, .int .u16 v, .int .u16 an, .int .u16 orr, .slice BA bl bc, .slice WA wl wc, .int .i64 ra, .int .i64 rn, .int .i64 co, .int .i64 ob] 48)) w4 := by
         rwa [show (w.alloc (.cells #[.int .i64 fn, .int .i64 at_, .int .i64 n, .int .u16 v, .int .u16 an, .int .u16 orr, .slice BA bl bc, .slice WA wl wc, .int .i64 ra, .int .i64 rn, .int .i64 co, .int .i64 ob] 48)).heap.size = w.heap.size + 1 by simp] at hb4
       obtain ⟨hc0, hc1, hc2, hc3, hc4, hc5, hc6, hc7, hc8, hc9, hc10, hc11⟩ := box12 _ _ _ _ _ _ _ _ _ _ _ _ _ w w4 hk4
       clear hb4 hk4)
    | (go_at_call 68; refine (place_no at_ _ HA.out).mono ?_; rintro e w' ⟨rfl, rfl⟩))
  go_ret
  exact ⟨rfl, HB4.out⟩

theorem rright_ra (fn at_ n v an orr : Int) (bl wl : Nat) (ra rn co ob : Int) (BA WA : Option Addr) (bc wc : Nat) (w : World) (hk : kKnown fn = true) (hp : plainP fn at_ n v an orr bl wl ra rn co ob) (a0 : 0 ≤ at_) (a1 : at_ ≤ 65535) (ha : ra < 0 ∨ 65535 < ra) :
    Calls Try.prog 42 #[.agg #[.int .i64 fn, .int .i64 at_, .int .i64 n, .int .u16 v, .int .u16 an, .int .u16 orr, .slice BA bl bc, .slice WA wl wc, .int .i64 ra, .int .i64 rn, .int .i64 co, .int .i64 ob]] w fun e w' => e = .returned (.bool false) ∧ Below w.heap.size w w' := by
  have HK := Lib.hid hk
  have HP := Lib.hid hp
  have HA := Lib.hid ha
  clear hk hp ha
  go_enter Try.func42, Try.ntmps42
  go_wp2_with (first
    | (go_at_call 72; refine (known_lit fn true _ HK.out).mono ?_; rintro e w' ⟨rfl, rfl⟩)
    | (go_at_call 73
       refine (plain_yes fn at_ n v an orr bl wl ra rn co ob BA WA bc wc _ HK.out HP.out).mono ?_
       rintro e w4 ⟨rfl, hb4⟩
       have HB4 : Hid (Below w.heap.size w w4) := ((Below.refl _ _).alloc (Nat.le_refl _) _).trans (hb4.mono (by simp))
       have hk4 : Below (w.heap.size + 1) (w.alloc (.cells #[.int .i64 fn, .int .i64 at_, .int .i64 n, .int .u16 v, .int .u16 an, .int .u16 orr, .slice BA bl bc, .slice WA wl wc, .int .i64 ra, .int .i64 rn, .int .i64 co, .int .i64 ob] 48)) w4 := by
         rwa [show (w.alloc (.cells #[.int .i64 fn, .int .i64 at_, .int .i64 n, .int .u16 v, .int .u16 an, .int .u16 orr, .slice BA bl bc, .slice WA wl wc, .int .i64 ra, .int .i64 rn, .int .i64 co, .int .i64 ob] 48)).heap.size = w.heap.size + 1 by simp] at hb4
       obtain ⟨hc0, hc1, hc2, hc3, hc4, hc5, hc6, hc7, hc8, hc9, hc10, hc11⟩ := box12 _ _ _ _ _ _ _ _ _ _ _ _ _ w w4 hk4
       clear hb4 hk4)
    | (go_at_call 68; (with_reducible refine (place_yes at_ _ a0 a1).mono ?_); rintro e w' ⟨rfl, rfl⟩)
    | (go_at_call 68; (with_reducible refine (place_no ra _ HA.out).mono ?_); rintro e w' ⟨rfl, rfl⟩))
  go_ret
  exact ⟨rfl, HB4.out⟩

set_option maxHeartbeats 1000000 in
theorem rright_1 (at_ n v an orr : Int) (bl wl : Nat) (ra rn co ob : Int) (BA WA : Option Addr) (bc wc : Nat) (w : World) (hp : plainP 1 at_ n v an orr bl wl ra rn co ob) (a0 : 0 ≤ at_) (a1 : at_ ≤ 65535) (r0 : 0 ≤ ra) (r1 : ra ≤ 65535) :
    Calls Try.prog 42 #[.agg #[.int .i64 1, .int .i64 at_, .int .i64 n, .int .u16 v, .int .u16 an, .int .u16 orr, .slice BA bl bc, .slice WA wl wc, .int .i64 ra, .int .i64 rn, .int .i64 co, .int .i64 ob]] w fun e w' => e = .returned (.bool (decide (fitsP 1 at_ n v an orr bl wl ra rn co ob))) ∧ Below w.heap.size w w' := by
  have HK : Hid (kKnown 1 = true) := rfl
  have HP := Lib.hid hp
  clear hp
  have HM1 : Hid (kMostR 1 = 2000) := rfl
  have HM2 : Hid (kMostW 1 = 0) := rfl
  go_enter Try.func42, Try.ntmps42
  go_wp2_with (first
    | (go_at_call 72; refine (known_lit 1 true _ HK.out).mono ?_; rintro e w' ⟨rfl, rfl⟩)
    | (go_at_call 73
       refine (plain_yes 1 at_ n v an orr bl wl ra rn co ob BA WA bc wc _ HK.out HP.out).mono ?_
       rintro e w4 ⟨rfl, hb4⟩
       have HB4 : Hid (Below w.heap.size w w4) := ((Below.refl _ _).alloc (Nat.le_refl _) _).trans (hb4.mono (by simp))
       have hk4 : Below (w.heap.size + 1) (w.alloc (.cells #[.int .i64 1, .int .i64 at_, .int .i64 n, .int .u16 v, .int .u16 an, .int .u16 orr, .slice BA bl bc, .slice WA wl wc, .int .i64 ra, .int .i64 rn, .int .i64 co, .int .i64 ob] 48)) w4 := by
         rwa [show (w.alloc (.cells #[.int .i64 1, .int .i64 at_, .int .i64 n, .int .u16 v, .int .u16 an, .int .u16 orr, .slice BA bl bc, .slice WA wl wc, .int .i64 ra, .int .i64 rn, .int .i64 co, .int .i64 ob] 48)).heap.size = w.heap.size + 1 by simp] at hb4
       obtain ⟨hc0, hc1, hc2, hc3, hc4, hc5, hc6, hc7, hc8, hc9, hc10, hc11⟩ := box12 _ _ _ _ _ _ _ _ _ _ _ _ _ w w4 hk4
       clear hb4 hk4)
    | (go_at_call 68; (with_reducible refine (place_yes at_ _ a0 a1).mono ?_); rintro e w' ⟨rfl, rfl⟩)
    | (go_at_call 68; (with_reducible refine (place_yes ra _ r0 r1).mono ?_); rintro e w' ⟨rfl, rfl⟩)
    | (go_at_call 67; refine (most_lit 1 _ _ _ HM1.out HM2.out).mono ?_; rintro e w' ⟨rfl, rfl⟩))
  all_goals
    go_ret
    refine ⟨ret_bool ?_, HB4.out⟩
    have := HM1.out
    have := HM2.out
    first
      | exact (decide_eq_false (by unfold fitsP; omega)).symm
      | exact (decide_eq_true (by unfold fitsP; omega)).symm
      | (rw [Bool.eq_iff_iff]; simp only [decide_eq_true_eq, beq_iff_eq, Bool.and_eq_true]; unfold fitsP; omega)

set_option maxHeartbeats 1000000 in
theorem rright_2 (at_ n v an orr : Int) (bl wl : Nat) (ra rn co ob : Int) (BA WA : Option Addr) (bc wc : Nat) (w : World) (hp : plainP 2 at_ n v an orr bl wl ra rn co ob) (a0 : 0 ≤ at_) (a1 : at_ ≤ 65535) (r0 : 0 ≤ ra) (r1 : ra ≤ 65535) :
    Calls Try.prog 42 #[.agg #[.int .i64 2, .int .i64 at_, .int .i64 n, .int .u16 v, .int .u16 an, .int .u16 orr, .slice BA bl bc, .slice WA wl wc, .int .i64 ra, .int .i64 rn, .int .i64 co, .int .i64 ob]] w fun e w' => e = .returned (.bool (decide (fitsP 2 at_ n v an orr bl wl ra rn co ob))) ∧ Below w.heap.size w w' := by
  have HK : Hid (kKnown 2 = true) := rfl
  have HP := Lib.hid hp
  clear hp
  have HM1 : Hid (kMostR 2 = 2000) := rfl
  have HM2 : Hid (kMostW 2 = 0) := rfl
  go_enter Try.func42, Try.ntmps42
  go_wp2_with (first
    | (go_at_call 72; refine (known_lit 2 true _ HK.out).mono ?_; rintro e w' ⟨rfl, rfl⟩)
    | (go_at_call 73
       refine (plain_yes 2 at_ n v an orr bl wl ra rn co ob BA WA bc wc _ HK.out HP.out).mono ?_
       rintro e w4 ⟨rfl, hb4⟩
       have HB4 : Hid (Below w.heap.size w w4) := ((Below.refl _ _).alloc (Nat.le_refl _) _).trans (hb4.mono (by simp))
       have hk4 : Below (w.heap.size + 1) (w.alloc (.cells #[.int .i64 2, .int .i64 at_, .int .i64 n, .int .u16 v, .int .u16 an, .int .u16 orr, .slice BA bl bc, .slice WA wl wc, .int .i64 ra, .int .i64 rn, .int .i64 co, .int .i64 ob] 48)) w4 := by
         rwa [show (w.alloc (.cells #[.int .i64 2, .int .i64 at_, .int .i64 n, .int .u16 v, .int .u16 an, .int .u16 orr, .slice BA bl bc, .slice WA wl wc, .int .i64 ra, .int .i64 rn, .int .i64 co, .int .i64 ob] 48)).heap.size = w.heap.size + 1 by simp] at hb4
       obtain ⟨hc0, hc1, hc2, hc3, hc4, hc5, hc6, hc7, hc8, hc9, hc10, hc11⟩ := box12 _ _ _ _ _ _ _ _ _ _ _ _ _ w w4 hk4
       clear hb4 hk4)
    | (go_at_call 68; (with_reducible refine (place_yes at_ _ a0 a1).mono ?_); rintro e w' ⟨rfl, rfl⟩)
    | (go_at_call 68; (with_reducible refine (place_yes ra _ r0 r1).mono ?_); rintro e w' ⟨rfl, rfl⟩)
    | (go_at_call 67; refine (most_lit 2 _ _ _ HM1.out HM2.out).mono ?_; rintro e w' ⟨rfl, rfl⟩))
  all_goals
    go_ret
    refine ⟨ret_bool ?_, HB4.out⟩
    have := HM1.out
    have := HM2.out
    first
      | exact (decide_eq_false (by unfold fitsP; omega)).symm
      | exact (decide_eq_true (by unfold fitsP; omega)).symm
      | (rw [Bool.eq_iff_iff]; simp only [decide_eq_true_eq, beq_iff_eq, Bool.and_eq_true]; unfold fitsP; omega)

set_option maxHeartbeats 1000000 in
theorem rright_3 (at_ n v an orr : Int) (bl wl : Nat) (ra rn co ob : Int) (BA WA : Option Addr) (bc wc : Nat) (w : World) (hp : plainP 3 at_ n v an orr bl wl ra rn co ob) (a0 : 0 ≤ at_) (a1 : at_ ≤ 65535) (r0 : 0 ≤ ra) (r1 : ra ≤ 65535) :
    Calls Try.prog 42 #[.agg #[.int .i64 3, .int .i64 at_, .int .i64 n, .int .u16 v, .int .u16 an, .int .u16 orr, .slice BA bl bc, .slice WA wl wc, .int .i64 ra, .int .i64 rn, .int .i64 co, .int .i64 ob]] w fun e w' => e = .returned (.bool (decide (fitsP 3 at_ n v an orr bl wl ra rn co ob))) ∧ Below w.heap.size w w' := by
  have HK : Hid (kKnown 3 = true) := rfl
  have HP := Lib.hid hp
  clear hp
  have HM1 : Hid (kMostR 3 = 125) := rfl
  have HM2 : Hid (kMostW 3 = 0) := rfl
  go_enter Try.func42, Try.ntmps42
  go_wp2_with (first
    | (go_at_call 72; refine (known_lit 3 true _ HK.out).mono ?_; rintro e w' ⟨rfl, rfl⟩)
    | (go_at_call 73
       refine (plain_yes 3 at_ n v an orr bl wl ra rn co ob BA WA bc wc _ HK.out HP.out).mono ?_
       rintro e w4 ⟨rfl, hb4⟩
       have HB4 : Hid (Below w.heap.size w w4) := ((Below.refl _ _).alloc (Nat.le_refl _) _).trans (hb4.mono (by simp))
       have hk4 : Below (w.heap.size + 1) (w.alloc (.cells #[.int .i64 3, .int .i64 at_, .int .i64 n, .int .u16 v, .int .u16 an, .int .u16 orr, .slice BA bl bc, .slice WA wl wc, .int .i64 ra, .int .i64 rn, .int .i64 co, .int .i64 ob] 48)) w4 := by
         rwa [show (w.alloc (.cells #[.int .i64 3, .int .i64 at_, .int .i64 n, .int .u16 v, .int .u16 an, .int .u16 orr, .slice BA bl bc, .slice WA wl wc, .int .i64 ra, .int .i64 rn, .int .i64 co, .int .i64 ob] 48)).heap.size = w.heap.size + 1 by simp] at hb4
       obtain ⟨hc0, hc1, hc2, hc3, hc4, hc5, hc6, hc7, hc8, hc9, hc10, hc11⟩ := box12 _ _ _ _ _ _ _ _ _ _ _ _ _ w w4 hk4
       clear hb4 hk4)
    | (go_at_call 68; (with_reducible refine (place_yes at_ _ a0 a1).mono ?_); rintro e w' ⟨rfl, rfl⟩)
    | (go_at_call 68; (with_reducible refine (place_yes ra _ r0 r1).mono ?_); rintro e w' ⟨rfl, rfl⟩)
    | (go_at_call 67; refine (most_lit 3 _ _ _ HM1.out HM2.out).mono ?_; rintro e w' ⟨rfl, rfl⟩))
  all_goals
    go_ret
    refine ⟨ret_bool ?_, HB4.out⟩
    have := HM1.out
    have := HM2.out
    first
      | exact (decide_eq_false (by unfold fitsP; omega)).symm
      | exact (decide_eq_true (by unfold fitsP; omega)).symm
      | (rw [Bool.eq_iff_iff]; simp only [decide_eq_true_eq, beq_iff_eq, Bool.and_eq_true]; unfold fitsP; omega)

set_option maxHeartbeats 1000000 in
theorem rright_4 (at_ n v an orr : Int) (bl wl : Nat) (ra rn co ob : Int) (BA WA : Option Addr) (bc wc : Nat) (w : World) (hp : plainP 4 at_ n v an orr bl wl ra rn co ob) (a0 : 0 ≤ at_) (a1 : at_ ≤ 65535) (r0 : 0 ≤ ra) (r1 : ra ≤ 65535) :
    Calls Try.prog 42 #[.agg #[.int .i64 4, .int .i64 at_, .int .i64 n, .int .u16 v, .int .u16 an, .int .u16 orr, .slice BA bl bc, .slice WA wl wc, .int .i64 ra, .int .i64 rn, .int .i64 co, .int .i64 ob]] w fun e w' => e = .returned (.bool (decide (fitsP 4 at_ n v an orr bl wl ra rn co ob))) ∧ Below w.heap.size w w' := by
  have HK : Hid (kKnown 4 = true) := rfl
  have HP := Lib.hid hp
  clear hp
  have HM1 : Hid (kMostR 4 = 125) := rfl
  have HM2 : Hid (kMostW 4 = 0) := rfl
  go_enter Try.func42, Try.ntmps42
  go_wp2_with (first
    | (go_at_call 72; refine (known_lit 4 true _ HK.out).mono ?_; rintro e w' ⟨rfl, rfl⟩)
    | (go_at_call 73
       refine (plain_yes 4 at_ n v an orr bl wl ra rn co ob BA WA bc wc _ HK.out HP.out).mono ?_
       rintro e w4 ⟨rfl, hb4⟩
       have HB4 : Hid (Below w.heap.size w w4) := ((Below.refl _ _).alloc (Nat.le_refl _) _).trans (hb4.mono (by simp))
       have hk4 : Below (w.heap.size + 1) (w.alloc (.cells #[.int .i64 4, .int .i64 at_, .int .i64 n, .int .u16 v, .int .u16 an, .int .u16 orr, .slice BA bl bc, .slice WA wl wc, .int .i64 ra, .int .i64 rn, .int .i64 co, .int .i64 ob] 48)) w4 := by
         rwa [show (w.alloc (.cells #[.int .i64 4, .int .i64 at_, .int .i64 n, .int .u16 v, .int .u16 an, .int .u16 orr, .slice BA bl bc, .slice WA wl wc, .int .i64 ra, .int .i64 rn, .int .i64 co, .int .i64 ob] 48)).heap.size = w.heap.size + 1 by simp] at hb4
       obtain ⟨hc0, hc1, hc2, hc3, hc4, hc5, hc6, hc7, hc8, hc9, hc10, hc11⟩ := box12 _ _ _ _ _ _ _ _ _ _ _ _ _ w w4 hk4
       clear hb4 hk4)
    | (go_at_call 68; (with_reducible refine (place_yes at_ _ a0 a1).mono ?_); rintro e w' ⟨rfl, rfl⟩)
    | (go_at_call 68; (with_reducible refine (place_yes ra _ r0 r1).mono ?_); rintro e w' ⟨rfl, rfl⟩)
    | (go_at_call 67; refine (most_lit 4 _ _ _ HM1.out HM2.out).mono ?_; rintro e w' ⟨rfl, rfl⟩))
  all_goals
    go_ret
    refine ⟨ret_bool ?_, HB4.out⟩
    have := HM1.out
    have := HM2.out
    first
      | exact (decide_eq_false (by unfold fitsP; omega)).symm
      | exact (decide_eq_true (by unfold fitsP; omega)).symm
      | (rw [Bool.eq_iff_iff]; simp only [decide_eq_true_eq, beq_iff_eq, Bool.and_eq_true]; unfold fitsP; omega)

set_option maxHeartbeats 1000000 in
theorem rright_5 (at_ n v an orr : Int) (bl wl : Nat) (ra rn co ob : Int) (BA WA : Option Addr) (bc wc : Nat) (w : World) (hp : plainP 5 at_ n v an orr bl wl ra rn co ob) (a0 : 0 ≤ at_) (a1 : at_ ≤ 65535) (r0 : 0 ≤ ra) (r1 : ra ≤ 65535) :
    Calls Try.prog 42 #[.agg #[.int .i64 5, .int .i64 at_, .int .i64 n, .int .u16 v, .int .u16 an, .int .u16 orr, .slice BA bl bc, .slice WA wl wc, .int .i64 ra, .int .i64 rn, .int .i64 co, .int .i64 ob]] w fun e w' => e = .returned (.bool (decide (fitsP 5 at_ n v an orr bl wl ra rn co ob))) ∧ Below w.heap.size w w' := by
  have HK : Hid (kKnown 5 = true) := rfl
  have HP := Lib.hid hp
  clear hp
  have HM1 : Hid (kMostR 5 = 0) := rfl
  have HM2 : Hid (kMostW 5 = 1) := rfl
  go_enter Try.func42, Try.ntmps42
  go_wp2_with (first
    | (go_at_call 72; refine (known_lit 5 true _ HK.out).mono ?_; rintro e w' ⟨rfl, rfl⟩)
    | (go_at_call 73
       refine (plain_yes 5 at_ n v an orr bl wl ra rn co ob BA WA bc wc _ HK.out HP.out).mono ?_
       rintro e w4 ⟨rfl, hb4⟩
       have HB4 : Hid (Below w.heap.size w w4) := ((Below.refl _ _).alloc (Nat.le_refl _) _).trans (hb4.mono (by simp))
       have hk4 : Below (w.heap.size + 1) (w.alloc (.cells #[.int .i64 5, .int .i64 at_, .int .i64 n, .int .u16 v, .int .u16 an, .int .u16 orr, .slice BA bl bc, .slice WA wl wc, .int .i64 ra, .int .i64 rn, .int .i64 co, .int .i64 ob] 48)) w4 := by
         rwa [show (w.alloc (.cells #[.int .i64 5, .int .i64 at_, .int .i64 n, .int .u16 v, .int .u16 an, .int .u16 orr, .slice BA bl bc, .slice WA wl wc, .int .i64 ra, .int .i64 rn, .int .i64 co, .int .i64 ob] 48)).heap.size = w.heap.size + 1 by simp] at hb4
       obtain ⟨hc0, hc1, hc2, hc3, hc4, hc5, hc6, hc7, hc8, hc9, hc10, hc11⟩ := box12 _ _ _ _ _ _ _ _ _ _ _ _ _ w w4 hk4
       clear hb4 hk4)
    | (go_at_call 68; (with_reducible refine (place_yes at_ _ a0 a1).mono ?_); rintro e w' ⟨rfl, rfl⟩)
    | (go_at_call 68; (with_reducible refine (place_yes ra _ r0 r1).mono ?_); rintro e w' ⟨rfl, rfl⟩)
    | (go_at_call 67; refine (most_lit 5 _ _ _ HM1.out HM2.out).mono ?_; rintro e w' ⟨rfl, rfl⟩))
  all_goals
    go_ret
    refine ⟨ret_bool ?_, HB4.out⟩
    have := HM1.out
    have := HM2.out
    first
      | exact (decide_eq_false (by unfold fitsP; omega)).symm
      | exact (decide_eq_true (by unfold fitsP; omega)).symm
      | (rw [Bool.eq_iff_iff]; simp only [decide_eq_true_eq, beq_iff_eq, Bool.and_eq_true]; unfold fitsP; omega)

set_option maxHeartbeats 1000000 in
theorem rright_6 (at_ n v an orr : Int) (bl wl : Nat) (ra rn co ob : Int) (BA WA : Option Addr) (bc wc : Nat) (w : World) (hp : plainP 6 at_ n v an orr bl wl ra rn co ob) (a0 : 0 ≤ at_) (a1 : at_ ≤ 65535) (r0 : 0 ≤ ra) (r1 : ra ≤ 65535) :
    Calls Try.prog 42 #[.agg #[.int .i64 6, .int .i64 at_, .int .i64 n, .int .u16 v, .int .u16 an, .int .u16 orr, .slice BA bl bc, .slice WA wl wc, .int .i64 ra, .int .i64 rn, .int .i64 co, .int .i64 ob]] w fun e w' => e = .returned (.bool (decide (fitsP 6 at_ n v an orr bl wl ra rn co ob))) ∧ Below w.heap.size w w' := by
  have HK : Hid (kKnown 6 = true) := rfl
  have HP := Lib.hid hp
  clear hp
  have HM1 : Hid (kMostR 6 = 0) := rfl
  have HM2 : Hid (kMostW 6 = 1) := rfl
  go_enter Try.func42, Try.ntmps42
  go_wp2_with (first
    | (go_at_call 72; refine (known_lit 6 true _ HK.out).mono ?_; rintro e w' ⟨rfl, rfl⟩)
    | (go_at_call 73
       refine (plain_yes 6 at_ n v an orr bl wl ra rn co ob BA WA bc wc _ HK.out HP.out).mono ?_
       rintro e w4 ⟨rfl, hb4⟩
       have HB4 : Hid (Below w.heap.size w w4) := ((Below.refl _ _).alloc (Nat.le_refl _) _).trans (hb4.mono (by simp))
       have hk4 : Below (w.heap.size + 1) (w.alloc (.cells #[.int .i64 6, .int .i64 at_, .int .i64 n, .int .u16 v, .int .u16 an, .int .u16 orr, .slice BA bl bc, .slice WA wl wc, .int .i64 ra, .int .i64 rn, .int .i64 co, .int .i64 ob] 48)) w4 := by
         rwa [show (w.alloc (.cells #[.int .i64 6, .int .i64 at_, .int .i64 n, .int .u16 v, .int .u16 an, .int .u16 orr, .slice BA bl bc, .slice WA wl wc, .int .i64 ra, .int .i64 rn, .int .i64 co, .int .i64 ob] 48)).heap.size = w.heap.size + 1 by simp] at hb4
       obtain ⟨hc0, hc1, hc2, hc3, hc4, hc5, hc6, hc7, hc8, hc9, hc10, hc11⟩ := box12 _ _ _ _ _ _ _ _ _ _ _ _ _ w w4 hk4
       clear hb4 hk4)
    | (go_at_call 68; (with_reducible refine (place_yes at_ _ a0 a1).mono ?_); rintro e w' ⟨rfl, rfl⟩)
    | (go_at_call 68; (with_reducible refine (place_yes ra _ r0 r1).mono ?_); rintro e w' ⟨rfl, rfl⟩)
    | (go_at_call 67; refine (most_lit 6 _ _ _ HM1.out HM2.out).mono ?_; rintro e w' ⟨rfl, rfl⟩))
  all_goals
    go_ret
    refine ⟨ret_bool ?_, HB4.out⟩
    have := HM1.out
    have := HM2.out
    first
      | exact (decide_eq_false (by unfold fitsP; omega)).symm
      | exact (decide_eq_true (by unfold fitsP; omega)).symm
      | (rw [Bool.eq_iff_iff]; simp only [decide_eq_true_eq, beq_iff_eq, Bool.and_eq_true]; unfold fitsP; omega)

set_option maxHeartbeats 1000000 in
theorem rright_15 (at_ n v an orr : Int) (bl wl : Nat) (ra rn co ob : Int) (BA WA : Option Addr) (bc wc : Nat) (w : World) (hp : plainP 15 at_ n v an orr bl wl ra rn co ob) (a0 : 0 ≤ at_) (a1 : at_ ≤ 65535) (r0 : 0 ≤ ra) (r1 : ra ≤ 65535) :
    Calls Try.prog 42 #[.agg #[.int .i64 15, .int .i64 at_, .int .i64 n, .int .u16 v, .int .u16 an, .int .u16 orr, .slice BA bl bc, .slice WA wl wc, .int .i64 ra, .int .i64 rn, .int .i64 co, .int .i64 ob]] w fun e w' => e = .returned (.bool (decide (fitsP 15 at_ n v an orr bl wl ra rn co ob))) ∧ Below w.heap.size w w' := by
  have HK : Hid (kKnown 15 = true) := rfl
  have HP := Lib.hid hp
  clear hp
  have HM1 : Hid (kMostR 15 = 0) := rfl
  have HM2 : Hid (kMostW 15 = 1968) := rfl
  go_enter Try.func42, Try.ntmps42
  go_wp2_with (first
    | (go_at_call 72; refine (known_lit 15 true _ HK.out).mono ?_; rintro e w' ⟨rfl, rfl⟩)
    | (go_at_call 73
       refine (plain_yes 15 at_ n v an orr bl wl ra rn co ob BA WA bc wc _ HK.out HP.out).mono ?_
       rintro e w4 ⟨rfl, hb4⟩
       have HB4 : Hid (Below w.heap.size w w4) := ((Below.refl _ _).alloc (Nat.le_refl _) _).trans (hb4.mono (by simp))
       have hk4 : Below (w.heap.size + 1) (w.alloc (.cells #[.int .i64 15, .int .i64 at_, .int .i64 n, .int .u16 v, .int .u16 an, .int .u16 orr, .slice BA bl bc, .slice WA wl wc, .int .i64 ra, .int .i64 rn, .int .i64 co, .int .i64 ob] 48)) w4 := by
         rwa [show (w.alloc (.cells #[.int .i64 15, .int .i64 at_, .int .i64 n, .int .u16 v, .int .u16 an, .int .u16 orr, .slice BA bl bc, .slice WA wl wc, .int .i64 ra, .int .i64 rn, .int .i64 co, .int .i64 ob] 48)).heap.size = w.heap.size + 1 by simp] at hb4
       obtain ⟨hc0, hc1, hc2, hc3, hc4, hc5, hc6, hc7, hc8, hc9, hc10, hc11⟩ := box12 _ _ _ _ _ _ _ _ _ _ _ _ _ w w4 hk4
       clear hb4 hk4)
    | (go_at_call 68; (with_reducible refine (place_yes at_ _ a0 a1).mono ?_); rintro e w' ⟨rfl, rfl⟩)
    | (go_at_call 68; (with_reducible refine (place_yes ra _ r0 r1).mono ?_); rintro e w' ⟨rfl, rfl⟩)
    | (go_at_call 67; refine (most_lit 15 _ _ _ HM1.out HM2.out).mono ?_; rintro e w' ⟨rfl, rfl⟩))
  all_goals
    go_ret
    refine ⟨ret_bool ?_, HB4.out⟩
    have := HM1.out
    have := HM2.out
    first
      | exact (decide_eq_false (by unfold fitsP; omega)).symm
      | exact (decide_eq_true (by unfold fitsP; omega)).symm
      | (rw [Bool.eq_iff_iff]; simp only [decide_eq_true_eq, beq_iff_eq, Bool.and_eq_true]; unfold fitsP; omega)

set_option maxHeartbeats 1000000 in
theorem rright_16 (at_ n v an orr : Int) (bl wl : Nat) (ra rn co ob : Int) (BA WA : Option Addr) (bc wc : Nat) (w : World) (hp : plainP 16 at_ n v an orr bl wl ra rn co ob) (a0 : 0 ≤ at_) (a1 : at_ ≤ 65535) (r0 : 0 ≤ ra) (r1 : ra ≤ 65535) :
    Calls Try.prog 42 #[.agg #[.int .i64 16, .int .i64 at_, .int .i64 n, .int .u16 v, .int .u16 an, .int .u16 orr, .slice BA bl bc, .slice WA wl wc, .int .i64 ra, .int .i64 rn, .int .i64 co, .int .i64 ob]] w fun e w' => e = .returned (.bool (decide (fitsP 16 at_ n v an orr bl wl ra rn co ob))) ∧ Below w.heap.size w w' := by
  have HK : Hid (kKnown 16 = true) := rfl
  have HP := Lib.hid hp
  clear hp
  have HM1 : Hid (kMostR 16 = 0) := rfl
  have HM2 : Hid (kMostW 16 = 123) := rfl
  go_enter Try.func42, Try.ntmps42
  go_wp2_with (first
    | (go_at_call 72; refine (known_lit 16 true _ HK.out).mono ?_; rintro e w' ⟨rfl, rfl⟩)
    | (go_at_call 73
       refine (plain_yes 16 at_ n v an orr bl wl ra rn co ob BA WA bc wc _ HK.out HP.out).mono ?_
       rintro e w4 ⟨rfl, hb4⟩
       have HB4 : Hid (Below w.heap.size w w4) := ((Below.refl _ _).alloc (Nat.le_refl _) _).trans (hb4.mono (by simp))
       have hk4 : Below (w.heap.size + 1) (w.alloc (.cells #[.int .i64 16, .int .i64 at_, .int .i64 n, .int .u16 v, .int .u16 an, .int .u16 orr, .slice BA bl bc, .slice WA wl wc, .int .i64 ra, .int .i64 rn, .int .i64 co, .int .i64 ob] 48)) w4 := by
         rwa [show (w.alloc (.cells #[.int .i64 16, .int .i64 at_, .int .i64 n, .int .u16 v, .int .u16 an, .int .u16 orr, .slice BA bl bc, .slice WA wl wc, .int .i64 ra, .int .i64 rn, .int .i64 co, .int .i64 ob] 48)).heap.size = w.heap.size + 1 by simp] at hb4
       obtain ⟨hc0, hc1, hc2, hc3, hc4, hc5, hc6, hc7, hc8, hc9, hc10, hc11⟩ := box12 _ _ _ _ _ _ _ _ _ _ _ _ _ w w4 hk4
       clear hb4 hk4)
    | (go_at_call 68; (with_reducible refine (place_yes at_ _ a0 a1).mono ?_); rintro e w' ⟨rfl, rfl⟩)
    | (go_at_call 68; (with_reducible refine (place_yes ra _ r0 r1).mono ?_); rintro e w' ⟨rfl, rfl⟩)
    | (go_at_call 67; refine (most_lit 16 _ _ _ HM1.out HM2.out).mono ?_; rintro e w' ⟨rfl, rfl⟩))
  all_goals
    go_ret
    refine ⟨ret_bool ?_, HB4.out⟩
    have := HM1.out
    have := HM2.out
    first
      | exact (decide_eq_false (by unfold fitsP; omega)).symm
      | exact (decide_eq_true (by unfold fitsP; omega)).symm
      | (rw [Bool.eq_iff_iff]; simp only [decide_eq_true_eq, beq_iff_eq, Bool.and_eq_true]; unfold fitsP; omega)

set_option maxHeartbeats 1000000 in
theorem rright_22 (at_ n v an orr : Int) (bl wl : Nat) (ra rn co ob : Int) (BA WA : Option Addr) (bc wc : Nat) (w : World) (hp : plainP 22 at_ n v an orr bl wl ra rn co ob) (a0 : 0 ≤ at_) (a1 : at_ ≤ 65535) (r0 : 0 ≤ ra) (r1 : ra ≤ 65535) :
    Calls Try.prog 42 #[.agg #[.int .i64 22, .int .i64 at_, .int .i64 n, .int .u16 v, .int .u16 an, .int .u16 orr, .slice BA bl bc, .slice WA wl wc, .int .i64 ra, .int .i64 rn, .int .i64 co, .int .i64 ob]] w fun e w' => e = .returned (.bool (decide (fitsP 22 at_ n v an orr bl wl ra rn co ob))) ∧ Below w.heap.size w w' := by
  have HK : Hid (kKnown 22 = true) := rfl
  have HP := Lib.hid hp
  clear hp
  have HM1 : Hid (kMostR 22 = 0) := rfl
  have HM2 : Hid (kMostW 22 = 1) := rfl
  go_enter Try.func42, Try.ntmps42
  go_wp2_with (first
    | (go_at_call 72; refine (known_lit 22 true _ HK.out).mono ?_; rintro e w' ⟨rfl, rfl⟩)
    | (go_at_call 73
       refine (plain_yes 22 at_ n v an orr bl wl ra rn co ob BA WA bc wc _ HK.out HP.out).mono ?_
       rintro e w4 ⟨rfl, hb4⟩
       have HB4 : Hid (Below w.heap.size w w4) := ((Below.refl _ _).alloc (Nat.le_refl _) _).trans (hb4.mono (by simp))
       have hk4 : Below (w.heap.size + 1) (w.alloc (.cells #[.int .i64 22, .int .i64 at_, .int .i64 n, .int .u16 v, .int .u16 an, .int .u16 orr, .slice BA bl bc, .slice WA wl wc, .int .i64 ra, .int .i64 rn, .int .i64 co, .int .i64 ob] 48)) w4 := by
         rwa [show (w.alloc (.cells #[.int .i64 22, .int .i64 at_, .int .i64 n, .int .u16 v, .int .u16 an, .int .u16 orr, .slice BA bl bc, .slice WA wl wc, .int .i64 ra, .int .i64 rn, .int .i64 co, .int .i64 ob] 48)).heap.size = w.heap.size + 1 by simp] at hb4
       obtain ⟨hc0, hc1, hc2, hc3, hc4, hc5, hc6, hc7, hc8, hc9, hc10, hc11⟩ := box12 _ _ _ _ _ _ _ _ _ _ _ _ _ w w4 hk4
       clear hb4 hk4)
    | (go_at_call 68; (with_reducible refine (place_yes at_ _ a0 a1).mono ?_); rintro e w' ⟨rfl, rfl⟩)
    | (go_at_call 68; (with_reducible refine (place_yes ra _ r0 r1).mono ?_); rintro e w' ⟨rfl, rfl⟩)
    | (go_at_call 67; refine (most_lit 22 _ _ _ HM1.out HM2.out).mono ?_; rintro e w' ⟨rfl, rfl⟩))
  all_goals
    go_ret
    refine ⟨ret_bool ?_, HB4.out⟩
    have := HM1.out
    have := HM2.out
    first
      | exact (decide_eq_false (by unfold fitsP; omega)).symm
      | exact (decide_eq_true (by unfold fitsP; omega)).symm
      | (rw [Bool.eq_iff_iff]; simp only [decide_eq_true_eq, beq_iff_eq, Bool.and_eq_true]; unfold fitsP; omega)

set_option maxHeartbeats 1000000 in
theorem rright_23 (at_ n v an orr : Int) (bl wl : Nat) (ra rn co ob : Int) (BA WA : Option Addr) (bc wc : Nat) (w : World) (hp : plainP 23 at_ n v an orr bl wl ra rn co ob) (a0 : 0 ≤ at_) (a1 : at_ ≤ 65535) (r0 : 0 ≤ ra) (r1 : ra ≤ 65535) :
    Calls Try.prog 42 #[.agg #[.int .i64 23, .int .i64 at_, .int .i64 n, .int .u16 v, .int .u16 an, .int .u16 orr, .slice BA bl bc, .slice WA wl wc, .int .i64 ra, .int .i64 rn, .int .i64 co, .int .i64 ob]] w fun e w' => e = .returned (.bool (decide (fitsP 23 at_ n v an orr bl wl ra rn co ob))) ∧ Below w.heap.size w w' := by
  have HK : Hid (kKnown 23 = true) := rfl
  have HP := Lib.hid hp
  clear hp
  have HM1 : Hid (kMostR 23 = 125) := rfl
  have HM2 : Hid (kMostW 23 = 121) := rfl
  go_enter Try.func42, Try.ntmps42
  go_wp2_with (first
    | (go_at_call 72; refine (known_lit 23 true _ HK.out).mono ?_; rintro e w' ⟨rfl, rfl⟩)
    | (go_at_call 73
       refine (plain_yes 23 at_ n v an orr bl wl ra rn co ob BA WA bc wc _ HK.out HP.out).mono ?_
       rintro e w4 ⟨rfl, hb4⟩
       have HB4 : Hid (Below w.heap.size w w4) := ((Below.refl _ _).alloc (Nat.le_refl _) _).trans (hb4.mono (by simp))
       have hk4 : Below (w.heap.size + 1) (w.alloc (.cells #[.int .i64 23, .int .i64 at_, .int .i64 n, .int .u16 v, .int .u16 an, .int .u16 orr, .slice BA bl bc, .slice WA wl wc, .int .i64 ra, .int .i64 rn, .int .i64 co, .int .i64 ob] 48)) w4 := by
         rwa [show (w.alloc (.cells #[.int .i64 23, .int .i64 at_, .int .i64 n, .int .u16 v, .int .u16 an, .int .u16 orr, .slice BA bl bc, .slice WA wl wc, .int .i64 ra, .int .i64 rn, .int .i64 co, .int .i64 ob] 48)).heap.size = w.heap.size + 1 by simp] at hb4
       obtain ⟨hc0, hc1, hc2, hc3, hc4, hc5, hc6, hc7, hc8, hc9, hc10, hc11⟩ := box12 _ _ _ _ _ _ _ _ _ _ _ _ _ w w4 hk4
       clear hb4 hk4)
    | (go_at_call 68; (with_reducible refine (place_yes at_ _ a0 a1).mono ?_); rintro e w' ⟨rfl, rfl⟩)
    | (go_at_call 68; (with_reducible refine (place_yes ra _ r0 r1).mono ?_); rintro e w' ⟨rfl, rfl⟩)
    | (go_at_call 67; refine (most_lit 23 _ _ _ HM1.out HM2.out).mono ?_; rintro e w' ⟨rfl, rfl⟩))
  all_goals
    go_ret
    refine ⟨ret_bool ?_, HB4.out⟩
    have := HM1.out
    have := HM2.out
    first
      | exact (decide_eq_false (by unfold fitsP; omega)).symm
      | exact (decide_eq_true (by unfold fitsP; omega)).symm
      | (rw [Bool.eq_iff_iff]; simp only [decide_eq_true_eq, beq_iff_eq, Bool.and_eq_true]; unfold fitsP; omega)

set_option maxHeartbeats 1000000 in
theorem rright_43 (at_ n v an orr : Int) (bl wl : Nat) (ra rn co ob : Int) (BA WA : Option Addr) (bc wc : Nat) (w : World) (hp : plainP 43 at_ n v an orr bl wl ra rn co ob) (a0 : 0 ≤ at_) (a1 : at_ ≤ 65535) (r0 : 0 ≤ ra) (r1 : ra ≤ 65535) :
    Calls Try.prog 42 #[.agg #[.int .i64 43, .int .i64 at_, .int .i64 n, .int .u16 v, .int .u16 an, .int .u16 orr, .slice BA bl bc, .slice WA wl wc, .int .i64 ra, .int .i64 rn, .int .i64 co, .int .i64 ob]] w fun e w' => e = .returned (.bool (decide (fitsP 43 at_ n v an orr bl wl ra rn co ob))) ∧ Below w.heap.size w w' := by
  have HK : Hid (kKnown 43 = true) := rfl
  have HP := Lib.hid hp
  clear hp
  have HM1 : Hid (kMostR 43 = 0) := rfl
  have HM2 : Hid (kMostW 43 = 0) := rfl
  go_enter Try.func42, Try.ntmps42
  go_wp2_with (first
    | (go_at_call 72; refine (known_lit 43 true _ HK.out).mono ?_; rintro e w' ⟨rfl, rfl⟩)
    | (go_at_call 73
       refine (plain_yes 43 at_ n v an orr bl wl ra rn co ob BA WA bc wc _ HK.out HP.out).mono ?_
       rintro e w4 ⟨rfl, hb4⟩
       have HB4 : Hid (Below w.heap.size w w4) := ((Below.refl _ _).alloc (Nat.le_refl _) _).trans (hb4.mono (by simp))
       have hk4 : Below (w.heap.size + 1) (w.alloc (.cells #[.int .i64 43, .int .i64 at_, .int .i64 n, .int .u16 v, .int .u16 an, .int .u16 orr, .slice BA bl bc, .slice WA wl wc, .int .i64 ra, .int .i64 rn, .int .i64 co, .int .i64 ob] 48)) w4 := by
         rwa [show (w.alloc (.cells #[.int .i64 43, .int .i64 at_, .int .i64 n, .int .u16 v, .int .u16 an, .int .u16 orr, .slice BA bl bc, .slice WA wl wc, .int .i64 ra, .int .i64 rn, .int .i64 co, .int .i64 ob] 48)).heap.size = w.heap.size + 1 by simp] at hb4
       obtain ⟨hc0, hc1, hc2, hc3, hc4, hc5, hc6, hc7, hc8, hc9, hc10, hc11⟩ := box12 _ _ _ _ _ _ _ _ _ _ _ _ _ w w4 hk4
       clear hb4 hk4)
    | (go_at_call 68; (with_reducible refine (place_yes at_ _ a0 a1).mono ?_); rintro e w' ⟨rfl, rfl⟩)
    | (go_at_call 68; (with_reducible refine (place_yes ra _ r0 r1).mono ?_); rintro e w' ⟨rfl, rfl⟩)
    | (go_at_call 67; refine (most_lit 43 _ _ _ HM1.out HM2.out).mono ?_; rintro e w' ⟨rfl, rfl⟩)
    | (go_at_call 66; refine (byteful_lit ob _ _ rfl).mono ?_; rintro e w' ⟨rfl, rfl⟩))
  all_goals
    go_ret
    refine ⟨ret_bool ?_, HB4.out⟩
    have := HM1.out
    have := HM2.out
    first
      | exact (decide_eq_false (by unfold fitsP; omega)).symm
      | exact (decide_eq_true (by unfold fitsP; omega)).symm
      | (rw [Bool.eq_iff_iff]; simp only [decide_eq_true_eq, beq_iff_eq, Bool.and_eq_true]; unfold fitsP; omega)

theorem rright_any (fn at_ n v an orr : Int) (bl wl : Nat) (ra rn co ob : Int) (BA WA : Option Addr) (bc wc : Nat) (w : World) :
    Calls Try.prog 42 #[.agg #[.int .i64 fn, .int .i64 at_, .int .i64 n, .int .u16 v, .int .u16 an, .int .u16 orr, .slice BA bl bc, .slice WA wl wc, .int .i64 ra, .int .i64 rn, .int .i64 co, .int .i64 ob]] w fun e w' => e = .returned (.bool (decide (rightP fn at_ n v an orr bl wl ra rn co ob))) ∧ Below w.heap.size w w' := by
  by_cases hk : kKnown fn = true
  · by_cases hp : plainP fn at_ n v an orr bl wl ra rn co ob
    · by_cases ha : 0 ≤ at_ ∧ at_ ≤ 65535
      · by_cases hr : 0 ≤ ra ∧ ra ≤ 65535
        · have e : decide (rightP fn at_ n v an orr bl wl ra rn co ob) = decide (fitsP fn at_ n v an orr bl wl ra rn co ob) := by
            rw [Bool.eq_iff_iff, decide_eq_true_eq, decide_eq_true_eq]
            exact ⟨fun h => h.2.2.2.2, fun h => ⟨hk, hp, ha, hr, h⟩⟩
          rw [e]
          rcases kinds fn with rfl | rfl | rfl | rfl | rfl | rfl | rfl | rfl | rfl | rfl | rfl | h
          · exact rright_1 at_ n v an orr bl wl ra rn co ob BA WA bc wc w hp ha.1 ha.2 hr.1 hr.2
          · exact rright_2 at_ n v an orr bl wl ra rn co ob BA WA bc wc w hp ha.1 ha.2 hr.1 hr.2
          · exact rright_3 at_ n v an orr bl wl ra rn co ob BA WA bc wc w hp ha.1 ha.2 hr.1 hr.2
          · exact rright_4 at_ n v an orr bl wl ra rn co ob BA WA bc wc w hp ha.1 ha.2 hr.1 hr.2
          · exact rright_5 at_ n v an orr bl wl ra rn co ob BA WA bc wc w hp ha.1 ha.2 hr.1 hr.2
          · exact rright_6 at_ n v an orr bl wl ra rn co ob BA WA bc wc w hp ha.1 ha.2 hr.1 hr.2
          · exact rright_15 at_ n v an orr bl wl ra rn co ob BA WA bc wc w hp ha.1 ha.2 hr.1 hr.2
          · exact rright_16 at_ n v an orr bl wl ra rn co ob BA WA bc wc w hp ha.1 ha.2 hr.1 hr.2
          · exact rright_22 at_ n v an orr bl wl ra rn co ob BA WA bc wc w hp ha.1 ha.2 hr.1 hr.2
          · exact rright_23 at_ n v an orr bl wl ra rn co ob BA WA bc wc w hp ha.1 ha.2 hr.1 hr.2
          · exact rright_43 at_ n v an orr bl wl ra rn co ob BA WA bc wc w hp ha.1 ha.2 hr.1 hr.2
          · rw [h.known] at hk; cases hk
        · rw [decide_eq_false (fun h => hr h.2.2.2.1)]
          exact rright_ra fn at_ n v an orr bl wl ra rn co ob BA WA bc wc w hk hp ha.1 ha.2 (by omega)
      · rw [decide_eq_false (fun h => ha h.2.2.1)]
        exact rright_at fn at_ n v an orr bl wl ra rn co ob BA WA bc wc w hk hp (by omega)
    · rw [decide_eq_false (fun h => hp h.2.1)]
      exact rright_crowded fn at_ n v an orr bl wl ra rn co ob BA WA bc wc w hk hp
  · rw [decide_eq_false (fun h => hk h.1)]
    exact rright_unknown fn at_ n v an orr bl wl ra rn co ob BA WA bc wc w (by simpa using hk)

end Go.Proofs.Ytielfekkonflfaa

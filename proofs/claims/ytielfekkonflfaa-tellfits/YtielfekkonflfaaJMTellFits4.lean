/- Joined: AskSpans. -/
import Derived.Test.YtielfekkonflfaaAskBytes
namespace Go.Proofs.Ytielfekkonflfaa
open Go.ChangeShapes Go.WideShapes Go.ChangeAt Go.RowKit
set_option linter.unusedVariables false
set_option linter.unusedSimpArgs false

/-- A slice of spans that holds one, or none. -/
def OneRow (w : World) (A : Option Addr) (n : Nat) : Option (Int × Int × Int) → Prop
  | none => n = 0
  | some (t, f, u) => n = 1 ∧ ∃ g, A = some ⟨g, 0, none⟩ ∧ g < w.heap.size ∧ w.cell? ⟨g, 0, none⟩ = some (.int .i64 t) ∧ w.cell? ⟨g, 1, none⟩ = some (.int .i64 f) ∧ w.cell? ⟨g, 2, none⟩ = some (.int .i64 u)
theorem OneRow.below {w w' : World} {A : Option Addr} {n : Nat} {o : Option (Int × Int × Int)} (h : OneRow w A n o) (hb : Below w.heap.size w w') : OneRow w' A n o := by
  match o, h with
  | none, h => exact h
  | some (t, f, u), ⟨h1, g, h2, h3, h4, h5, h6⟩ =>
    exact ⟨h1, g, h2, Nat.lt_of_lt_of_le h3 hb.size, by rw [hb.cell h3]; exact h4, by rw [hb.cell h3]; exact h5, by rw [hb.cell h3]; exact h6⟩
theorem one_new (w W : World) (t f u : Int) (T : TypeId) (hb : Below (w.alloc (.cells #[.int .i64 t, .int .i64 f, .int .i64 u] T)).heap.size (w.alloc (.cells #[.int .i64 t, .int .i64 f, .int .i64 u] T)) W) : OneRow W (some ⟨w.heap.size, 0, none⟩) 1 (some (t, f, u)) := by
  have h := heap_alloc_new w (.cells #[.int .i64 t, .int .i64 f, .int .i64 u] T)
  have h0 : OneRow (w.alloc (.cells #[.int .i64 t, .int .i64 f, .int .i64 u] T)) (some ⟨w.heap.size, 0, none⟩) 1 (some (t, f, u)) := by
    refine ⟨rfl, _, rfl, by simp, ?_, ?_, ?_⟩ <;> (rw [cell_of_row _ _ _ _ _ _ h]; rfl)
  exact h0.below hb
theorem two_new (w : World) (t f u t' f' u' : Int) (T : TypeId) : OneRow ((w.alloc (.cells #[.int .i64 t, .int .i64 f, .int .i64 u] T)).alloc (.cells #[.int .i64 t', .int .i64 f', .int .i64 u'] T)).drew (some ⟨w.heap.size, 0, none⟩) 1 (some (t, f, u)) ∧
    OneRow ((w.alloc (.cells #[.int .i64 t, .int .i64 f, .int .i64 u] T)).alloc (.cells #[.int .i64 t', .int .i64 f', .int .i64 u'] T)).drew (some ⟨w.heap.size + 1, 0, none⟩) 1 (some (t', f', u')) := by
  refine ⟨one_new _ _ _ _ _ T (((Below.refl _ _).alloc (Nat.le_refl _) _).drew), ?_⟩
  have h := one_new (w.alloc (.cells #[.int .i64 t, .int .i64 f, .int .i64 u] T)) _ t' f' u' T (Below.refl _ _).drew
  rwa [show (w.alloc (.cells #[.int .i64 t, .int .i64 f, .int .i64 u] T)).heap.size = w.heap.size + 1 by simp] at h
/-- What a request reads, and what it writes. -/
def spR (fn at_ n ra rn : Int) : Option (Int × Int × Int) := if 1 ≤ fn ∧ fn ≤ 4 then some (kTab fn, at_, at_ + n) else if fn = 23 then some (kTab fn, ra, ra + rn) else none
def spW (fn at_ n : Int) : Option (Int × Int × Int) := if fn = 5 ∨ fn = 6 ∨ fn = 22 then some (kTab fn, at_, at_ + 1) else if fn = 15 ∨ fn = 16 ∨ fn = 23 then some (kTab fn, at_, at_ + n) else none

theorem table_lit (fn t : Int) (b : Bool) (w : World) (h1 : kTab fn = t) (h2 : kHas fn = b) :
    Calls Try.prog 44 #[.int .i64 fn] w fun e w' => e = .returned (.tuple #[.int .i64 t, .bool b]) ∧ w = w' := by
  subst h1 h2
  exact rtable_any fn w

theorem rspans_no (fn at_ n v an orr : Int) (bl wl : Nat) (ra rn co ob : Int) (BA WA : Option Addr) (bc wc : Nat) (w : World) (h : ¬ rightP fn at_ n v an orr bl wl ra rn co ob) :
    Calls Try.prog 41 #[.agg #[.int .i64 fn, .int .i64 at_, .int .i64 n, .int .u16 v, .int .u16 an, .int .u16 orr, .slice BA bl bc, .slice WA wl wc, .int .i64 ra, .int .i64 rn, .int .i64 co, .int .i64 ob]] w fun e w' => e = .returned (.tuple #[.slice none 0 0, .slice none 0 0]) ∧ Below w.heap.size w w' := by
  have HRt := Lib.hid h
  clear h
  go_enter Try.func41, Try.ntmps41
  go_wp2_with (go_at_call 42; refine (right_no fn at_ n v an orr bl wl ra rn co ob BA WA bc wc _ HRt.out).mono ?_; rintro e w4 ⟨rfl, hb4⟩)
  go_ret2
  exact ⟨rfl, ((Below.refl _ _).alloc (Nat.le_refl _) _).trans (hb4.mono (by simp))⟩

set_option maxHeartbeats 1000000 in
theorem rspans_1 (at_ n v an orr : Int) (bl wl : Nat) (ra rn co ob : Int) (BA WA : Option Addr) (bc wc : Nat) (w : World) (hrt : rightP 1 at_ n v an orr bl wl ra rn co ob) :
    Calls Try.prog 41 #[.agg #[.int .i64 1, .int .i64 at_, .int .i64 n, .int .u16 v, .int .u16 an, .int .u16 orr, .slice BA bl bc, .slice WA wl wc, .int .i64 ra, .int .i64 rn, .int .i64 co, .int .i64 ob]] w fun e w' => ∃ R nr rc S ns sc, e = .returned (.tuple #[.slice R nr rc, .slice S ns sc]) ∧ OneRow w' R nr (spR 1 at_ n ra rn) ∧ OneRow w' S ns (spW 1 at_ n) ∧ Below w.heap.size w w' := by
  have hrt0 := hrt
  obtain ⟨_, hpl, ⟨a0, a1⟩, ⟨r0, r1⟩, hfit⟩ := hrt0
  unfold plainP at hpl
  unfold fitsP at hfit
  have hm1 : kMostR 1 ≤ 2000 := by decide
  have hm2 : kMostW 1 ≤ 2000 := by decide
  have n0 : 0 ≤ n := by omega
  have n1 : n ≤ 2000 := by omega
  have q0 : 0 ≤ rn := by omega
  have q1 : rn ≤ 2000 := by omega
  clear hpl hfit hm1 hm2
  have wr1 : IntKind.i64.wrap (at_ + 1) = at_ + 1 := IntWalk.i64_in _ (by omega)
  have wr2 : IntKind.i64.wrap (at_ + n) = at_ + n := IntWalk.i64_in _ (by omega)
  have wr3 : IntKind.i64.wrap (ra + rn) = ra + rn := IntWalk.i64_in _ (by omega)
  have HRt := Lib.hid hrt
  clear hrt
  have HT1 : Hid (kTab 1 = 0) := rfl
  have HT2 : Hid (kHas 1 = true) := rfl
  go_enter Try.func41, Try.ntmps41
  go_wp2_with (first
    | (go_at_call 42
       refine (right_yes 1 at_ n v an orr bl wl ra rn co ob BA WA bc wc _ HRt.out).mono ?_
       rintro e w4 ⟨rfl, hb4⟩
       have HB4 : Hid (Below w.heap.size w w4) := ((Below.refl _ _).alloc (Nat.le_refl _) _).trans (hb4.mono (by simp))
       have hk4 : Below (w.heap.size + 1) (w.alloc (.cells #[.int .i64 1, .int .i64 at_, .int .i64 n, .int .u16 v, .int .u16 an, .int .u16 orr, .slice BA bl bc, .slice WA wl wc, .int .i64 ra, .int .i64 rn, .int .i64 co, .int .i64 ob] 48)) w4 := by
         rwa [show (w.alloc (.cells #[.int .i64 1, .int .i64 at_, .int .i64 n, .int .u16 v, .int .u16 an, .int .u16 orr, .slice BA bl bc, .slice WA wl wc, .int .i64 ra, .int .i64 rn, .int .i64 co, .int .i64 ob] 48)).heap.size = w.heap.size + 1 by simp] at hb4
       obtain ⟨hc0, hc1, hc2, hc3, hc4, hc5, hc6, hc7, hc8, hc9, hc10, hc11⟩ := box12 _ _ _ _ _ _ _ _ _ _ _ _ _ w w4 hk4
       clear hb4 hk4 hc3 hc4 hc5 hc6 hc7 hc10 hc11)
    | (go_at_call 44; refine (table_lit 1 _ _ _ HT1.out HT2.out).mono ?_; rintro e w' ⟨rfl, rfl⟩))
  all_goals
    go_wp2
    go_ret2
    refine ⟨_, _, _, _, _, _, rfl, ?_, ?_, ?_⟩
    · first | exact (rfl : (0 : Nat) = 0) | exact one_new _ _ _ _ _ _ (Below.refl _ _) | exact one_new _ _ _ _ _ _ (Below.refl _ _).drew | exact one_new _ _ _ _ _ _ ((Below.refl _ _).alloc (Nat.le_refl _) _) | exact one_new _ _ _ _ _ _ ((Below.refl _ _).drew.alloc (Nat.le_refl _) _)
    · first | exact (rfl : (0 : Nat) = 0) | exact one_new _ _ _ _ _ _ (Below.refl _ _) | exact one_new _ _ _ _ _ _ (Below.refl _ _).drew | exact one_new _ _ _ _ _ _ ((Below.refl _ _).alloc (Nat.le_refl _) _) | exact one_new _ _ _ _ _ _ ((Below.refl _ _).drew.alloc (Nat.le_refl _) _)
    · first | exact HB4.out | exact HB4.out.alloc HB4.out.size _ | exact (HB4.out.alloc HB4.out.size _).drew | exact HB4.out.drew

set_option maxHeartbeats 1000000 in
theorem rspans_2 (at_ n v an orr : Int) (bl wl : Nat) (ra rn co ob : Int) (BA WA : Option Addr) (bc wc : Nat) (w : World) (hrt : rightP 2 at_ n v an orr bl wl ra rn co ob) :
    Calls Try.prog 41 #[.agg #[.int .i64 2, .int .i64 at_, .int .i64 n, .int .u16 v, .int .u16 an, .int .u16 orr, .slice BA bl bc, .slice WA wl wc, .int .i64 ra, .int .i64 rn, .int .i64 co, .int .i64 ob]] w fun e w' => ∃ R nr rc S ns sc, e = .returned (.tuple #[.slice R nr rc, .slice S ns sc]) ∧ OneRow w' R nr (spR 2 at_ n ra rn) ∧ OneRow w' S ns (spW 2 at_ n) ∧ Below w.heap.size w w' := by
  have hrt0 := hrt
  obtain ⟨_, hpl, ⟨a0, a1⟩, ⟨r0, r1⟩, hfit⟩ := hrt0
  unfold plainP at hpl
  unfold fitsP at hfit
  have hm1 : kMostR 2 ≤ 2000 := by decide
  have hm2 : kMostW 2 ≤ 2000 := by decide
  have n0 : 0 ≤ n := by omega
  have n1 : n ≤ 2000 := by omega
  have q0 : 0 ≤ rn := by omega
  have q1 : rn ≤ 2000 := by omega
  clear hpl hfit hm1 hm2
  have wr1 : IntKind.i64.wrap (at_ + 1) = at_ + 1 := IntWalk.i64_in _ (by omega)
  have wr2 : IntKind.i64.wrap (at_ + n) = at_ + n := IntWalk.i64_in _ (by omega)
  have wr3 : IntKind.i64.wrap (ra + rn) = ra + rn := IntWalk.i64_in _ (by omega)
  have HRt := Lib.hid hrt
  clear hrt
  have HT1 : Hid (kTab 2 = 1) := rfl
  have HT2 : Hid (kHas 2 = true) := rfl
  go_enter Try.func41, Try.ntmps41
  go_wp2_with (first
    | (go_at_call 42
       refine (right_yes 2 at_ n v an orr bl wl ra rn co ob BA WA bc wc _ HRt.out).mono ?_
       rintro e w4 ⟨rfl, hb4⟩
       have HB4 : Hid (Below w.heap.size w w4) := ((Below.refl _ _).alloc (Nat.le_refl _) _).trans (hb4.mono (by simp))
       have hk4 : Below (w.heap.size + 1) (w.alloc (.cells #[.int .i64 2, .int .i64 at_, .int .i64 n, .int .u16 v, .int .u16 an, .int .u16 orr, .slice BA bl bc, .slice WA wl wc, .int .i64 ra, .int .i64 rn, .int .i64 co, .int .i64 ob] 48)) w4 := by
         rwa [show (w.alloc (.cells #[.int .i64 2, .int .i64 at_, .int .i64 n, .int .u16 v, .int .u16 an, .int .u16 orr, .slice BA bl bc, .slice WA wl wc, .int .i64 ra, .int .i64 rn, .int .i64 co, .int .i64 ob] 48)).heap.size = w.heap.size + 1 by simp] at hb4
       obtain ⟨hc0, hc1, hc2, hc3, hc4, hc5, hc6, hc7, hc8, hc9, hc10, hc11⟩ := box12 _ _ _ _ _ _ _ _ _ _ _ _ _ w w4 hk4
       clear hb4 hk4 hc3 hc4 hc5 hc6 hc7 hc10 hc11)
    | (go_at_call 44; refine (table_lit 2 _ _ _ HT1.out HT2.out).mono ?_; rintro e w' ⟨rfl, rfl⟩))
  all_goals
    go_wp2
    go_ret2
    refine ⟨_, _, _, _, _, _, rfl, ?_, ?_, ?_⟩
    · first | exact (rfl : (0 : Nat) = 0) | exact one_new _ _ _ _ _ _ (Below.refl _ _) | exact one_new _ _ _ _ _ _ (Below.refl _ _).drew | exact one_new _ _ _ _ _ _ ((Below.refl _ _).alloc (Nat.le_refl _) _) | exact one_new _ _ _ _ _ _ ((Below.refl _ _).drew.alloc (Nat.le_refl _) _)
    · first | exact (rfl : (0 : Nat) = 0) | exact one_new _ _ _ _ _ _ (Below.refl _ _) | exact one_new _ _ _ _ _ _ (Below.refl _ _).drew | exact one_new _ _ _ _ _ _ ((Below.refl _ _).alloc (Nat.le_refl _) _) | exact one_new _ _ _ _ _ _ ((Below.refl _ _).drew.alloc (Nat.le_refl _) _)
    · first | exact HB4.out | exact HB4.out.alloc HB4.out.size _ | exact (HB4.out.alloc HB4.out.size _).drew | exact HB4.out.drew

set_option maxHeartbeats 1000000 in
theorem rspans_3 (at_ n v an orr : Int) (bl wl : Nat) (ra rn co ob : Int) (BA WA : Option Addr) (bc wc : Nat) (w : World) (hrt : rightP 3 at_ n v an orr bl wl ra rn co ob) :
    Calls Try.prog 41 #[.agg #[.int .i64 3, .int .i64 at_, .int .i64 n, .int .u16 v, .int .u16 an, .int .u16 orr, .slice BA bl bc, .slice WA wl wc, .int .i64 ra, .int .i64 rn, .int .i64 co, .int .i64 ob]] w fun e w' => ∃ R nr rc S ns sc, e = .returned (.tuple #[.slice R nr rc, .slice S ns sc]) ∧ OneRow w' R nr (spR 3 at_ n ra rn) ∧ OneRow w' S ns (spW 3 at_ n) ∧ Below w.heap.size w w' := by
  have hrt0 := hrt
  obtain ⟨_, hpl, ⟨a0, a1⟩, ⟨r0, r1⟩, hfit⟩ := hrt0
  unfold plainP at hpl
  unfold fitsP at hfit
  have hm1 : kMostR 3 ≤ 2000 := by decide
  have hm2 : kMostW 3 ≤ 2000 := by decide
  have n0 : 0 ≤ n := by omega
  have n1 : n ≤ 2000 := by omega
  have q0 : 0 ≤ rn := by omega
  have q1 : rn ≤ 2000 := by omega
  clear hpl hfit hm1 hm2
  have wr1 : IntKind.i64.wrap (at_ + 1) = at_ + 1 := IntWalk.i64_in _ (by omega)
  have wr2 : IntKind.i64.wrap (at_ + n) = at_ + n := IntWalk.i64_in _ (by omega)
  have wr3 : IntKind.i64.wrap (ra + rn) = ra + rn := IntWalk.i64_in _ (by omega)
  have HRt := Lib.hid hrt
  clear hrt
  have HT1 : Hid (kTab 3 = 2) := rfl
  have HT2 : Hid (kHas 3 = true) := rfl
  go_enter Try.func41, Try.ntmps41
  go_wp2_with (first
    | (go_at_call 42
       refine (right_yes 3 at_ n v an orr bl wl ra rn co ob BA WA bc wc _ HRt.out).mono ?_
       rintro e w4 ⟨rfl, hb4⟩
       have HB4 : Hid (Below w.heap.size w w4) := ((Below.refl _ _).alloc (Nat.le_refl _) _).trans (hb4.mono (by simp))
       have hk4 : Below (w.heap.size + 1) (w.alloc (.cells #[.int .i64 3, .int .i64 at_, .int .i64 n, .int .u16 v, .int .u16 an, .int .u16 orr, .slice BA bl bc, .slice WA wl wc, .int .i64 ra, .int .i64 rn, .int .i64 co, .int .i64 ob] 48)) w4 := by
         rwa [show (w.alloc (.cells #[.int .i64 3, .int .i64 at_, .int .i64 n, .int .u16 v, .int .u16 an, .int .u16 orr, .slice BA bl bc, .slice WA wl wc, .int .i64 ra, .int .i64 rn, .int .i64 co, .int .i64 ob] 48)).heap.size = w.heap.size + 1 by simp] at hb4
       obtain ⟨hc0, hc1, hc2, hc3, hc4, hc5, hc6, hc7, hc8, hc9, hc10, hc11⟩ := box12 _ _ _ _ _ _ _ _ _ _ _ _ _ w w4 hk4
       clear hb4 hk4 hc3 hc4 hc5 hc6 hc7 hc10 hc11)
    | (go_at_call 44; refine (table_lit 3 _ _ _ HT1.out HT2.out).mono ?_; rintro e w' ⟨rfl, rfl⟩))
  all_goals
    go_wp2
    go_ret2
    refine ⟨_, _, _, _, _, _, rfl, ?_, ?_, ?_⟩
    · first | exact (rfl : (0 : Nat) = 0) | exact one_new _ _ _ _ _ _ (Below.refl _ _) | exact one_new _ _ _ _ _ _ (Below.refl _ _).drew | exact one_new _ _ _ _ _ _ ((Below.refl _ _).alloc (Nat.le_refl _) _) | exact one_new _ _ _ _ _ _ ((Below.refl _ _).drew.alloc (Nat.le_refl _) _)
    · first | exact (rfl : (0 : Nat) = 0) | exact one_new _ _ _ _ _ _ (Below.refl _ _) | exact one_new _ _ _ _ _ _ (Below.refl _ _).drew | exact one_new _ _ _ _ _ _ ((Below.refl _ _).alloc (Nat.le_refl _) _) | exact one_new _ _ _ _ _ _ ((Below.refl _ _).drew.alloc (Nat.le_refl _) _)
    · first | exact HB4.out | exact HB4.out.alloc HB4.out.size _ | exact (HB4.out.alloc HB4.out.size _).drew | exact HB4.out.drew

set_option maxHeartbeats 1000000 in
theorem rspans_4 (at_ n v an orr : Int) (bl wl : Nat) (ra rn co ob : Int) (BA WA : Option Addr) (bc wc : Nat) (w : World) (hrt : rightP 4 at_ n v an orr bl wl ra rn co ob) :
    Calls Try.prog 41 #[.agg #[.int .i64 4, .int .i64 at_, .int .i64 n, .int .u16 v, .int .u16 an, .int .u16 orr, .slice BA bl bc, .slice WA wl wc, .int .i64 ra, .int .i64 rn, .int .i64 co, .int .i64 ob]] w fun e w' => ∃ R nr rc S ns sc, e = .returned (.tuple #[.slice R nr rc, .slice S ns sc]) ∧ OneRow w' R nr (spR 4 at_ n ra rn) ∧ OneRow w' S ns (spW 4 at_ n) ∧ Below w.heap.size w w' := by
  have hrt0 := hrt
  obtain ⟨_, hpl, ⟨a0, a1⟩, ⟨r0, r1⟩, hfit⟩ := hrt0
  unfold plainP at hpl
  unfold fitsP at hfit
  have hm1 : kMostR 4 ≤ 2000 := by decide
  have hm2 : kMostW 4 ≤ 2000 := by decide
  have n0 : 0 ≤ n := by omega
  have n1 : n ≤ 2000 := by omega
  have q0 : 0 ≤ rn := by omega
  have q1 : rn ≤ 2000 := by omega
  clear hpl hfit hm1 hm2
  have wr1 : IntKind.i64.wrap (at_ + 1) = at_ + 1 := IntWalk.i64_in _ (by omega)
  have wr2 : IntKind.i64.wrap (at_ + n) = at_ + n := IntWalk.i64_in _ (by omega)
  have wr3 : IntKind.i64.wrap (ra + rn) = ra + rn := IntWalk.i64_in _ (by omega)
  have HRt := Lib.hid hrt
  clear hrt
  have HT1 : Hid (kTab 4 = 3) := rfl
  have HT2 : Hid (kHas 4 = true) := rfl
  go_enter Try.func41, Try.ntmps41
  go_wp2_with (first
    | (go_at_call 42
       refine (right_yes 4 at_ n v an orr bl wl ra rn co ob BA WA bc wc _ HRt.out).mono ?_
       rintro e w4 ⟨rfl, hb4⟩
       have HB4 : Hid (Below w.heap.size w w4) := ((Below.refl _ _).alloc (Nat.le_refl _) _).trans (hb4.mono (by simp))
       have hk4 : Below (w.heap.size + 1) (w.alloc (.cells #[.int .i64 4, .int .i64 at_, .int .i64 n, .int .u16 v, .int .u16 an, .int .u16 orr, .slice BA bl bc, .slice WA wl wc, .int .i64 ra, .int .i64 rn, .int .i64 co, .int .i64 ob] 48)) w4 := by
         rwa [show (w.alloc (.cells #[.int .i64 4, .int .i64 at_, .int .i64 n, .int .u16 v, .int .u16 an, .int .u16 orr, .slice BA bl bc, .slice WA wl wc, .int .i64 ra, .int .i64 rn, .int .i64 co, .int .i64 ob] 48)).heap.size = w.heap.size + 1 by simp] at hb4
       obtain ⟨hc0, hc1, hc2, hc3, hc4, hc5, hc6, hc7, hc8, hc9, hc10, hc11⟩ := box12 _ _ _ _ _ _ _ _ _ _ _ _ _ w w4 hk4
       clear hb4 hk4 hc3 hc4 hc5 hc6 hc7 hc10 hc11)
    | (go_at_call 44; refine (table_lit 4 _ _ _ HT1.out HT2.out).mono ?_; rintro e w' ⟨rfl, rfl⟩))
  all_goals
    go_wp2
    go_ret2
    refine ⟨_, _, _, _, _, _, rfl, ?_, ?_, ?_⟩
    · first | exact (rfl : (0 : Nat) = 0) | exact one_new _ _ _ _ _ _ (Below.refl _ _) | exact one_new _ _ _ _ _ _ (Below.refl _ _).drew | exact one_new _ _ _ _ _ _ ((Below.refl _ _).alloc (Nat.le_refl _) _) | exact one_new _ _ _ _ _ _ ((Below.refl _ _).drew.alloc (Nat.le_refl _) _)
    · first | exact (rfl : (0 : Nat) = 0) | exact one_new _ _ _ _ _ _ (Below.refl _ _) | exact one_new _ _ _ _ _ _ (Below.refl _ _).drew | exact one_new _ _ _ _ _ _ ((Below.refl _ _).alloc (Nat.le_refl _) _) | exact one_new _ _ _ _ _ _ ((Below.refl _ _).drew.alloc (Nat.le_refl _) _)
    · first | exact HB4.out | exact HB4.out.alloc HB4.out.size _ | exact (HB4.out.alloc HB4.out.size _).drew | exact HB4.out.drew

set_option maxHeartbeats 1000000 in
theorem rspans_5 (at_ n v an orr : Int) (bl wl : Nat) (ra rn co ob : Int) (BA WA : Option Addr) (bc wc : Nat) (w : World) (hrt : rightP 5 at_ n v an orr bl wl ra rn co ob) :
    Calls Try.prog 41 #[.agg #[.int .i64 5, .int .i64 at_, .int .i64 n, .int .u16 v, .int .u16 an, .int .u16 orr, .slice BA bl bc, .slice WA wl wc, .int .i64 ra, .int .i64 rn, .int .i64 co, .int .i64 ob]] w fun e w' => ∃ R nr rc S ns sc, e = .returned (.tuple #[.slice R nr rc, .slice S ns sc]) ∧ OneRow w' R nr (spR 5 at_ n ra rn) ∧ OneRow w' S ns (spW 5 at_ n) ∧ Below w.heap.size w w' := by
  have hrt0 := hrt
  obtain ⟨_, hpl, ⟨a0, a1⟩, ⟨r0, r1⟩, hfit⟩ := hrt0
  unfold plainP at hpl
  unfold fitsP at hfit
  have hm1 : kMostR 5 ≤ 2000 := by decide
  have hm2 : kMostW 5 ≤ 2000 := by decide
  have n0 : 0 ≤ n := by omega
  have n1 : n ≤ 2000 := by omega
  have q0 : 0 ≤ rn := by omega
  have q1 : rn ≤ 2000 := by omega
  clear hpl hfit hm1 hm2
  have wr1 : IntKind.i64.wrap (at_ + 1) = at_ + 1 := IntWalk.i64_in _ (by omega)
  have wr2 : IntKind.i64.wrap (at_ + n) = at_ + n := IntWalk.i64_in _ (by omega)
  have wr3 : IntKind.i64.wrap (ra + rn) = ra + rn := IntWalk.i64_in _ (by omega)
  have HRt := Lib.hid hrt
  clear hrt
  have HT1 : Hid (kTab 5 = 0) := rfl
  have HT2 : Hid (kHas 5 = true) := rfl
  go_enter Try.func41, Try.ntmps41
  go_wp2_with (first
    | (go_at_call 42
       refine (right_yes 5 at_ n v an orr bl wl ra rn co ob BA WA bc wc _ HRt.out).mono ?_
       rintro e w4 ⟨rfl, hb4⟩
       have HB4 : Hid (Below w.heap.size w w4) := ((Below.refl _ _).alloc (Nat.le_refl _) _).trans (hb4.mono (by simp))
       have hk4 : Below (w.heap.size + 1) (w.alloc (.cells #[.int .i64 5, .int .i64 at_, .int .i64 n, .int .u16 v, .int .u16 an, .int .u16 orr, .slice BA bl bc, .slice WA wl wc, .int .i64 ra, .int .i64 rn, .int .i64 co, .int .i64 ob] 48)) w4 := by
         rwa [show (w.alloc (.cells #[.int .i64 5, .int .i64 at_, .int .i64 n, .int .u16 v, .int .u16 an, .int .u16 orr, .slice BA bl bc, .slice WA wl wc, .int .i64 ra, .int .i64 rn, .int .i64 co, .int .i64 ob] 48)).heap.size = w.heap.size + 1 by simp] at hb4
       obtain ⟨hc0, hc1, hc2, hc3, hc4, hc5, hc6, hc7, hc8, hc9, hc10, hc11⟩ := box12 _ _ _ _ _ _ _ _ _ _ _ _ _ w w4 hk4
       clear hb4 hk4 hc3 hc4 hc5 hc6 hc7 hc10 hc11)
    | (go_at_call 44; refine (table_lit 5 _ _ _ HT1.out HT2.out).mono ?_; rintro e w' ⟨rfl, rfl⟩))
  go_region
  all_goals
    go_wp2
    go_ret2
    refine ⟨_, _, _, _, _, _, rfl, ?_, ?_, ?_⟩
    · first | exact (rfl : (0 : Nat) = 0) | exact one_new _ _ _ _ _ _ (Below.refl _ _) | exact one_new _ _ _ _ _ _ (Below.refl _ _).drew | exact one_new _ _ _ _ _ _ ((Below.refl _ _).alloc (Nat.le_refl _) _) | exact one_new _ _ _ _ _ _ ((Below.refl _ _).drew.alloc (Nat.le_refl _) _)
    · first | exact (rfl : (0 : Nat) = 0) | exact one_new _ _ _ _ _ _ (Below.refl _ _) | exact one_new _ _ _ _ _ _ (Below.refl _ _).drew | exact one_new _ _ _ _ _ _ ((Below.refl _ _).alloc (Nat.le_refl _) _) | exact one_new _ _ _ _ _ _ ((Below.refl _ _).drew.alloc (Nat.le_refl _) _)
    · first | exact HB4.out | exact HB4.out.alloc HB4.out.size _ | exact (HB4.out.alloc HB4.out.size _).drew | exact HB4.out.drew

set_option maxHeartbeats 1000000 in
theorem rspans_6 (at_ n v an orr : Int) (bl wl : Nat) (ra rn co ob : Int) (BA WA : Option Addr) (bc wc : Nat) (w : World) (hrt : rightP 6 at_ n v an orr bl wl ra rn co ob) :
    Calls Try.prog 41 #[.agg #[.int .i64 6, .int .i64 at_, .int .i64 n, .int .u16 v, .int .u16 an, .int .u16 orr, .slice BA bl bc, .slice WA wl wc, .int .i64 ra, .int .i64 rn, .int .i64 co, .int .i64 ob]] w fun e w' => ∃ R nr rc S ns sc, e = .returned (.tuple #[.slice R nr rc, .slice S ns sc]) ∧ OneRow w' R nr (spR 6 at_ n ra rn) ∧ OneRow w' S ns (spW 6 at_ n) ∧ Below w.heap.size w w' := by
  have hrt0 := hrt
  obtain ⟨_, hpl, ⟨a0, a1⟩, ⟨r0, r1⟩, hfit⟩ := hrt0
  unfold plainP at hpl
  unfold fitsP at hfit
  have hm1 : kMostR 6 ≤ 2000 := by decide
  have hm2 : kMostW 6 ≤ 2000 := by decide
  have n0 : 0 ≤ n := by omega
  have n1 : n ≤ 2000 := by omega
  have q0 : 0 ≤ rn := by omega
  have q1 : rn ≤ 2000 := by omega
  clear hpl hfit hm1 hm2
  have wr1 : IntKind.i64.wrap (at_ + 1) = at_ + 1 := IntWalk.i64_in _ (by omega)
  have wr2 : IntKind.i64.wrap (at_ + n) = at_ + n := IntWalk.i64_in _ (by omega)
  have wr3 : IntKind.i64.wrap (ra + rn) = ra + rn := IntWalk.i64_in _ (by omega)
  have HRt := Lib.hid hrt
  clear hrt
  have HT1 : Hid (kTab 6 = 2) := rfl
  have HT2 : Hid (kHas 6 = true) := rfl
  go_enter Try.func41, Try.ntmps41
  go_wp2_with (first
    | (go_at_call 42
       refine (right_yes 6 at_ n v an orr bl wl ra rn co ob BA WA bc wc _ HRt.out).mono ?_
       rintro e w4 ⟨rfl, hb4⟩
       have HB4 : Hid (Below w.heap.size w w4) := ((Below.refl _ _).alloc (Nat.le_refl _) _).trans (hb4.mono (by simp))
       have hk4 : Below (w.heap.size + 1) (w.alloc (.cells #[.int .i64 6, .int .i64 at_, .int .i64 n, .int .u16 v, .int .u16 an, .int .u16 orr, .slice BA bl bc, .slice WA wl wc, .int .i64 ra, .int .i64 rn, .int .i64 co, .int .i64 ob] 48)) w4 := by
         rwa [show (w.alloc (.cells #[.int .i64 6, .int .i64 at_, .int .i64 n, .int .u16 v, .int .u16 an, .int .u16 orr, .slice BA bl bc, .slice WA wl wc, .int .i64 ra, .int .i64 rn, .int .i64 co, .int .i64 ob] 48)).heap.size = w.heap.size + 1 by simp] at hb4
       obtain ⟨hc0, hc1, hc2, hc3, hc4, hc5, hc6, hc7, hc8, hc9, hc10, hc11⟩ := box12 _ _ _ _ _ _ _ _ _ _ _ _ _ w w4 hk4
       clear hb4 hk4 hc3 hc4 hc5 hc6 hc7 hc10 hc11)
    | (go_at_call 44; refine (table_lit 6 _ _ _ HT1.out HT2.out).mono ?_; rintro e w' ⟨rfl, rfl⟩))
  go_region
  all_goals
    go_wp2
    go_ret2
    refine ⟨_, _, _, _, _, _, rfl, ?_, ?_, ?_⟩
    · first | exact (rfl : (0 : Nat) = 0) | exact one_new _ _ _ _ _ _ (Below.refl _ _) | exact one_new _ _ _ _ _ _ (Below.refl _ _).drew | exact one_new _ _ _ _ _ _ ((Below.refl _ _).alloc (Nat.le_refl _) _) | exact one_new _ _ _ _ _ _ ((Below.refl _ _).drew.alloc (Nat.le_refl _) _)
    · first | exact (rfl : (0 : Nat) = 0) | exact one_new _ _ _ _ _ _ (Below.refl _ _) | exact one_new _ _ _ _ _ _ (Below.refl _ _).drew | exact one_new _ _ _ _ _ _ ((Below.refl _ _).alloc (Nat.le_refl _) _) | exact one_new _ _ _ _ _ _ ((Below.refl _ _).drew.alloc (Nat.le_refl _) _)
    · first | exact HB4.out | exact HB4.out.alloc HB4.out.size _ | exact (HB4.out.alloc HB4.out.size _).drew | exact HB4.out.drew

set_option maxHeartbeats 1000000 in
theorem rspans_15 (at_ n v an orr : Int) (bl wl : Nat) (ra rn co ob : Int) (BA WA : Option Addr) (bc wc : Nat) (w : World) (hrt : rightP 15 at_ n v an orr bl wl ra rn co ob) :
    Calls Try.prog 41 #[.agg #[.int .i64 15, .int .i64 at_, .int .i64 n, .int .u16 v, .int .u16 an, .int .u16 orr, .slice BA bl bc, .slice WA wl wc, .int .i64 ra, .int .i64 rn, .int .i64 co, .int .i64 ob]] w fun e w' => ∃ R nr rc S ns sc, e = .returned (.tuple #[.slice R nr rc, .slice S ns sc]) ∧ OneRow w' R nr (spR 15 at_ n ra rn) ∧ OneRow w' S ns (spW 15 at_ n) ∧ Below w.heap.size w w' := by
  have hrt0 := hrt
  obtain ⟨_, hpl, ⟨a0, a1⟩, ⟨r0, r1⟩, hfit⟩ := hrt0
  unfold plainP at hpl
  unfold fitsP at hfit
  have hm1 : kMostR 15 ≤ 2000 := by decide
  have hm2 : kMostW 15 ≤ 2000 := by decide
  have n0 : 0 ≤ n := by omega
  have n1 : n ≤ 2000 := by omega
  have q0 : 0 ≤ rn := by omega
  have q1 : rn ≤ 2000 := by omega
  clear hpl hfit hm1 hm2
  have wr1 : IntKind.i64.wrap (at_ + 1) = at_ + 1 := IntWalk.i64_in _ (by omega)
  have wr2 : IntKind.i64.wrap (at_ + n) = at_ + n := IntWalk.i64_in _ (by omega)
  have wr3 : IntKind.i64.wrap (ra + rn) = ra + rn := IntWalk.i64_in _ (by omega)
  have HRt := Lib.hid hrt
  clear hrt
  have HT1 : Hid (kTab 15 = 0) := rfl
  have HT2 : Hid (kHas 15 = true) := rfl
  go_enter Try.func41, Try.ntmps41
  go_wp2_with (first
    | (go_at_call 42
       refine (right_yes 15 at_ n v an orr bl wl ra rn co ob BA WA bc wc _ HRt.out).mono ?_
       rintro e w4 ⟨rfl, hb4⟩
       have HB4 : Hid (Below w.heap.size w w4) := ((Below.refl _ _).alloc (Nat.le_refl _) _).trans (hb4.mono (by simp))
       have hk4 : Below (w.heap.size + 1) (w.alloc (.cells #[.int .i64 15, .int .i64 at_, .int .i64 n, .int .u16 v, .int .u16 an, .int .u16 orr, .slice BA bl bc, .slice WA wl wc, .int .i64 ra, .int .i64 rn, .int .i64 co, .int .i64 ob] 48)) w4 := by
         rwa [show (w.alloc (.cells #[.int .i64 15, .int .i64 at_, .int .i64 n, .int .u16 v, .int .u16 an, .int .u16 orr, .slice BA bl bc, .slice WA wl wc, .int .i64 ra, .int .i64 rn, .int .i64 co, .int .i64 ob] 48)).heap.size = w.heap.size + 1 by simp] at hb4
       obtain ⟨hc0, hc1, hc2, hc3, hc4, hc5, hc6, hc7, hc8, hc9, hc10, hc11⟩ := box12 _ _ _ _ _ _ _ _ _ _ _ _ _ w w4 hk4
       clear hb4 hk4 hc3 hc4 hc5 hc6 hc7 hc10 hc11)
    | (go_at_call 44; refine (table_lit 15 _ _ _ HT1.out HT2.out).mono ?_; rintro e w' ⟨rfl, rfl⟩))
  go_region
  all_goals
    go_wp2
    go_ret2
    refine ⟨_, _, _, _, _, _, rfl, ?_, ?_, ?_⟩
    · first | exact (rfl : (0 : Nat) = 0) | exact one_new _ _ _ _ _ _ (Below.refl _ _) | exact one_new _ _ _ _ _ _ (Below.refl _ _).drew | exact one_new _ _ _ _ _ _ ((Below.refl _ _).alloc (Nat.le_refl _) _) | exact one_new _ _ _ _ _ _ ((Below.refl _ _).drew.alloc (Nat.le_refl _) _)
    · first | exact (rfl : (0 : Nat) = 0) | exact one_new _ _ _ _ _ _ (Below.refl _ _) | exact one_new _ _ _ _ _ _ (Below.refl _ _).drew | exact one_new _ _ _ _ _ _ ((Below.refl _ _).alloc (Nat.le_refl _) _) | exact one_new _ _ _ _ _ _ ((Below.refl _ _).drew.alloc (Nat.le_refl _) _)
    · first | exact HB4.out | exact HB4.out.alloc HB4.out.size _ | exact (HB4.out.alloc HB4.out.size _).drew | exact HB4.out.drew

set_option maxHeartbeats 1000000 in
theorem rspans_16 (at_ n v an orr : Int) (bl wl : Nat) (ra rn co ob : Int) (BA WA : Option Addr) (bc wc : Nat) (w : World) (hrt : rightP 16 at_ n v an orr bl wl ra rn co ob) :
    Calls Try.prog 41 #[.agg #[.int .i64 16, .int .i64 at_, .int .i64 n, .int .u16 v, .int .u16 an, .int .u16 orr, .slice BA bl bc, .slice WA wl wc, .int .i64 ra, .int .i64 rn, .int .i64 co, .int .i64 ob]] w fun e w' => ∃ R nr rc S ns sc, e = .returned (.tuple #[.slice R nr rc, .slice S ns sc]) ∧ OneRow w' R nr (spR 16 at_ n ra rn) ∧ OneRow w' S ns (spW 16 at_ n) ∧ Below w.heap.size w w' := by
  have hrt0 := hrt
  obtain ⟨_, hpl, ⟨a0, a1⟩, ⟨r0, r1⟩, hfit⟩ := hrt0
  unfold plainP at hpl
  unfold fitsP at hfit
  have hm1 : kMostR 16 ≤ 2000 := by decide
  have hm2 : kMostW 16 ≤ 2000 := by decide
  have n0 : 0 ≤ n := by omega
  have n1 : n ≤ 2000 := by omega
  have q0 : 0 ≤ rn := by omega
  have q1 : rn ≤ 2000 := by omega
  clear hpl hfit hm1 hm2
  have wr1 : IntKind.i64.wrap (at_ + 1) = at_ + 1 := IntWalk.i64_in _ (by omega)
  have wr2 : IntKind.i64.wrap (at_ + n) = at_ + n := IntWalk.i64_in _ (by omega)
  have wr3 : IntKind.i64.wrap (ra + rn) = ra + rn := IntWalk.i64_in _ (by omega)
  have HRt := Lib.hid hrt
  clear hrt
  have HT1 : Hid (kTab 16 = 2) := rfl
  have HT2 : Hid (kHas 16 = true) := rfl
  go_enter Try.func41, Try.ntmps41
  go_wp2_with (first
    | (go_at_call 42
       refine (right_yes 16 at_ n v an orr bl wl ra rn co ob BA WA bc wc _ HRt.out).mono ?_
       rintro e w4 ⟨rfl, hb4⟩
       have HB4 : Hid (Below w.heap.size w w4) := ((Below.refl _ _).alloc (Nat.le_refl _) _).trans (hb4.mono (by simp))
       have hk4 : Below (w.heap.size + 1) (w.alloc (.cells #[.int .i64 16, .int .i64 at_, .int .i64 n, .int .u16 v, .int .u16 an, .int .u16 orr, .slice BA bl bc, .slice WA wl wc, .int .i64 ra, .int .i64 rn, .int .i64 co, .int .i64 ob] 48)) w4 := by
         rwa [show (w.alloc (.cells #[.int .i64 16, .int .i64 at_, .int .i64 n, .int .u16 v, .int .u16 an, .int .u16 orr, .slice BA bl bc, .slice WA wl wc, .int .i64 ra, .int .i64 rn, .int .i64 co, .int .i64 ob] 48)).heap.size = w.heap.size + 1 by simp] at hb4
       obtain ⟨hc0, hc1, hc2, hc3, hc4, hc5, hc6, hc7, hc8, hc9, hc10, hc11⟩ := box12 _ _ _ _ _ _ _ _ _ _ _ _ _ w w4 hk4
       clear hb4 hk4 hc3 hc4 hc5 hc6 hc7 hc10 hc11)
    | (go_at_call 44; refine (table_lit 16 _ _ _ HT1.out HT2.out).mono ?_; rintro e w' ⟨rfl, rfl⟩))
  go_region
  all_goals
    go_wp2
    go_ret2
    refine ⟨_, _, _, _, _, _, rfl, ?_, ?_, ?_⟩
    · first | exact (rfl : (0 : Nat) = 0) | exact one_new _ _ _ _ _ _ (Below.refl _ _) | exact one_new _ _ _ _ _ _ (Below.refl _ _).drew | exact one_new _ _ _ _ _ _ ((Below.refl _ _).alloc (Nat.le_refl _) _) | exact one_new _ _ _ _ _ _ ((Below.refl _ _).drew.alloc (Nat.le_refl _) _)
    · first | exact (rfl : (0 : Nat) = 0) | exact one_new _ _ _ _ _ _ (Below.refl _ _) | exact one_new _ _ _ _ _ _ (Below.refl _ _).drew | exact one_new _ _ _ _ _ _ ((Below.refl _ _).alloc (Nat.le_refl _) _) | exact one_new _ _ _ _ _ _ ((Below.refl _ _).drew.alloc (Nat.le_refl _) _)
    · first | exact HB4.out | exact HB4.out.alloc HB4.out.size _ | exact (HB4.out.alloc HB4.out.size _).drew | exact HB4.out.drew

set_option maxHeartbeats 1000000 in
theorem rspans_22 (at_ n v an orr : Int) (bl wl : Nat) (ra rn co ob : Int) (BA WA : Option Addr) (bc wc : Nat) (w : World) (hrt : rightP 22 at_ n v an orr bl wl ra rn co ob) :
    Calls Try.prog 41 #[.agg #[.int .i64 22, .int .i64 at_, .int .i64 n, .int .u16 v, .int .u16 an, .int .u16 orr, .slice BA bl bc, .slice WA wl wc, .int .i64 ra, .int .i64 rn, .int .i64 co, .int .i64 ob]] w fun e w' => ∃ R nr rc S ns sc, e = .returned (.tuple #[.slice R nr rc, .slice S ns sc]) ∧ OneRow w' R nr (spR 22 at_ n ra rn) ∧ OneRow w' S ns (spW 22 at_ n) ∧ Below w.heap.size w w' := by
  have hrt0 := hrt
  obtain ⟨_, hpl, ⟨a0, a1⟩, ⟨r0, r1⟩, hfit⟩ := hrt0
  unfold plainP at hpl
  unfold fitsP at hfit
  have hm1 : kMostR 22 ≤ 2000 := by decide
  have hm2 : kMostW 22 ≤ 2000 := by decide
  have n0 : 0 ≤ n := by omega
  have n1 : n ≤ 2000 := by omega
  have q0 : 0 ≤ rn := by omega
  have q1 : rn ≤ 2000 := by omega
  clear hpl hfit hm1 hm2
  have wr1 : IntKind.i64.wrap (at_ + 1) = at_ + 1 := IntWalk.i64_in _ (by omega)
  have wr2 : IntKind.i64.wrap (at_ + n) = at_ + n := IntWalk.i64_in _ (by omega)
  have wr3 : IntKind.i64.wrap (ra + rn) = ra + rn := IntWalk.i64_in _ (by omega)
  have HRt := Lib.hid hrt
  clear hrt
  have HT1 : Hid (kTab 22 = 2) := rfl
  have HT2 : Hid (kHas 22 = true) := rfl
  go_enter Try.func41, Try.ntmps41
  go_wp2_with (first
    | (go_at_call 42
       refine (right_yes 22 at_ n v an orr bl wl ra rn co ob BA WA bc wc _ HRt.out).mono ?_
       rintro e w4 ⟨rfl, hb4⟩
       have HB4 : Hid (Below w.heap.size w w4) := ((Below.refl _ _).alloc (Nat.le_refl _) _).trans (hb4.mono (by simp))
       have hk4 : Below (w.heap.size + 1) (w.alloc (.cells #[.int .i64 22, .int .i64 at_, .int .i64 n, .int .u16 v, .int .u16 an, .int .u16 orr, .slice BA bl bc, .slice WA wl wc, .int .i64 ra, .int .i64 rn, .int .i64 co, .int .i64 ob] 48)) w4 := by
         rwa [show (w.alloc (.cells #[.int .i64 22, .int .i64 at_, .int .i64 n, .int .u16 v, .int .u16 an, .int .u16 orr, .slice BA bl bc, .slice WA wl wc, .int .i64 ra, .int .i64 rn, .int .i64 co, .int .i64 ob] 48)).heap.size = w.heap.size + 1 by simp] at hb4
       obtain ⟨hc0, hc1, hc2, hc3, hc4, hc5, hc6, hc7, hc8, hc9, hc10, hc11⟩ := box12 _ _ _ _ _ _ _ _ _ _ _ _ _ w w4 hk4
       clear hb4 hk4 hc3 hc4 hc5 hc6 hc7 hc10 hc11)
    | (go_at_call 44; refine (table_lit 22 _ _ _ HT1.out HT2.out).mono ?_; rintro e w' ⟨rfl, rfl⟩))
  go_region
  all_goals
    go_wp2
    go_ret2
    refine ⟨_, _, _, _, _, _, rfl, ?_, ?_, ?_⟩
    · first | exact (rfl : (0 : Nat) = 0) | exact one_new _ _ _ _ _ _ (Below.refl _ _) | exact one_new _ _ _ _ _ _ (Below.refl _ _).drew | exact one_new _ _ _ _ _ _ ((Below.refl _ _).alloc (Nat.le_refl _) _) | exact one_new _ _ _ _ _ _ ((Below.refl _ _).drew.alloc (Nat.le_refl _) _)
    · first | exact (rfl : (0 : Nat) = 0) | exact one_new _ _ _ _ _ _ (Below.refl _ _) | exact one_new _ _ _ _ _ _ (Below.refl _ _).drew | exact one_new _ _ _ _ _ _ ((Below.refl _ _).alloc (Nat.le_refl _) _) | exact one_new _ _ _ _ _ _ ((Below.refl _ _).drew.alloc (Nat.le_refl _) _)
    · first | exact HB4.out | exact HB4.out.alloc HB4.out.size _ | exact (HB4.out.alloc HB4.out.size _).drew | exact HB4.out.drew

set_option maxHeartbeats 1000000 in
theorem rspans_23 (at_ n v an orr : Int) (bl wl : Nat) (ra rn co ob : Int) (BA WA : Option Addr) (bc wc : Nat) (w : World) (hrt : rightP 23 at_ n v an orr bl wl ra rn co ob) :
    Calls Try.prog 41 #[.agg #[.int .i64 23, .int .i64 at_, .int .i64 n, .int .u16 v, .int .u16 an, .int .u16 orr, .slice BA bl bc, .slice WA wl wc, .int .i64 ra, .int .i64 rn, .int .i64 co, .int .i64 ob]] w fun e w' => ∃ R nr rc S ns sc, e = .returned (.tuple #[.slice R nr rc, .slice S ns sc]) ∧ OneRow w' R nr (spR 23 at_ n ra rn) ∧ OneRow w' S ns (spW 23 at_ n) ∧ Below w.heap.size w w' := by
  have hrt0 := hrt
  obtain ⟨_, hpl, ⟨a0, a1⟩, ⟨r0, r1⟩, hfit⟩ := hrt0
  unfold plainP at hpl
  unfold fitsP at hfit
  have hm1 : kMostR 23 ≤ 2000 := by decide
  have hm2 : kMostW 23 ≤ 2000 := by decide
  have n0 : 0 ≤ n := by omega
  have n1 : n ≤ 2000 := by omega
  have q0 : 0 ≤ rn := by omega
  have q1 : rn ≤ 2000 := by omega
  clear hpl hfit hm1 hm2
  have wr1 : IntKind.i64.wrap (at_ + 1) = at_ + 1 := IntWalk.i64_in _ (by omega)
  have wr2 : IntKind.i64.wrap (at_ + n) = at_ + n := IntWalk.i64_in _ (by omega)
  have wr3 : IntKind.i64.wrap (ra + rn) = ra + rn := IntWalk.i64_in _ (by omega)
  have HRt := Lib.hid hrt
  clear hrt
  have HT1 : Hid (kTab 23 = 2) := rfl
  have HT2 : Hid (kHas 23 = true) := rfl
  go_enter Try.func41, Try.ntmps41
  go_wp2_with (first
    | (go_at_call 42
       refine (right_yes 23 at_ n v an orr bl wl ra rn co ob BA WA bc wc _ HRt.out).mono ?_
       rintro e w4 ⟨rfl, hb4⟩
       have HB4 : Hid (Below w.heap.size w w4) := ((Below.refl _ _).alloc (Nat.le_refl _) _).trans (hb4.mono (by simp))
       have hk4 : Below (w.heap.size + 1) (w.alloc (.cells #[.int .i64 23, .int .i64 at_, .int .i64 n, .int .u16 v, .int .u16 an, .int .u16 orr, .slice BA bl bc, .slice WA wl wc, .int .i64 ra, .int .i64 rn, .int .i64 co, .int .i64 ob] 48)) w4 := by
         rwa [show (w.alloc (.cells #[.int .i64 23, .int .i64 at_, .int .i64 n, .int .u16 v, .int .u16 an, .int .u16 orr, .slice BA bl bc, .slice WA wl wc, .int .i64 ra, .int .i64 rn, .int .i64 co, .int .i64 ob] 48)).heap.size = w.heap.size + 1 by simp] at hb4
       obtain ⟨hc0, hc1, hc2, hc3, hc4, hc5, hc6, hc7, hc8, hc9, hc10, hc11⟩ := box12 _ _ _ _ _ _ _ _ _ _ _ _ _ w w4 hk4
       clear hb4 hk4 hc3 hc4 hc5 hc6 hc7 hc10 hc11)
    | (go_at_call 44; refine (table_lit 23 _ _ _ HT1.out HT2.out).mono ?_; rintro e w' ⟨rfl, rfl⟩))
  have hz4 : w.heap.size < w4.heap.size := World.block_lt_of_cell? w4 _ hc1
  have KS : Hid (∀ W, Below w4.heap.size w4 W → W.cell? ⟨w.heap.size, 1, none⟩ = some (.int .i64 at_) ∧ W.cell? ⟨w.heap.size, 2, none⟩ = some (.int .i64 n) ∧ W.cell? ⟨w.heap.size, 8, none⟩ = some (.int .i64 ra) ∧ W.cell? ⟨w.heap.size, 9, none⟩ = some (.int .i64 rn) ∧ Below w4.heap.size w4 W) := fun W hb => ⟨(hb.cell hz4).trans hc1, (hb.cell hz4).trans hc2, (hb.cell hz4).trans hc8, (hb.cell hz4).trans hc9, hb⟩
  have KT : Hid (∀ W o, (W.cell? ⟨w.heap.size, 1, none⟩ = some (.int .i64 at_) ∧ W.cell? ⟨w.heap.size, 2, none⟩ = some (.int .i64 n) ∧ W.cell? ⟨w.heap.size, 8, none⟩ = some (.int .i64 ra) ∧ W.cell? ⟨w.heap.size, 9, none⟩ = some (.int .i64 rn) ∧ Below w4.heap.size w4 W) → (W.alloc o).cell? ⟨w.heap.size, 1, none⟩ = some (.int .i64 at_) ∧ (W.alloc o).cell? ⟨w.heap.size, 2, none⟩ = some (.int .i64 n) ∧ (W.alloc o).cell? ⟨w.heap.size, 8, none⟩ = some (.int .i64 ra) ∧ (W.alloc o).cell? ⟨w.heap.size, 9, none⟩ = some (.int .i64 rn) ∧ Below w4.heap.size w4 (W.alloc o)) := fun W o hs => KS.out _ (hs.2.2.2.2.alloc hs.2.2.2.2.size _)
  go_region_held3 (fun W => W.cell? ⟨w.heap.size, 1, none⟩ = some (.int .i64 at_) ∧ W.cell? ⟨w.heap.size, 2, none⟩ = some (.int .i64 n) ∧ W.cell? ⟨w.heap.size, 8, none⟩ = some (.int .i64 ra) ∧ W.cell? ⟨w.heap.size, 9, none⟩ = some (.int .i64 rn) ∧ Below w4.heap.size w4 W)
    (first | exact KS.out _ (Below.refl _ _).drew | exact KT.out _ _ (by assumption))
    (fail)
  all_goals
    go_wp2
    go_ret2
    first
      | exact ⟨_, _, _, _, _, _, rfl, (two_new w4 _ _ _ _ _ _ _).1, (two_new w4 _ _ _ _ _ _ _).2, ((HB4.out.alloc HB4.out.size _).alloc (by have := HB4.out.size; simp; omega) _).drew⟩
      | exact ⟨_, _, _, _, _, _, rfl, (two_new w4 _ _ _ _ _ _ _).2, (two_new w4 _ _ _ _ _ _ _).1, ((HB4.out.alloc HB4.out.size _).alloc (by have := HB4.out.size; simp; omega) _).drew⟩

set_option maxHeartbeats 1000000 in
theorem rspans_43 (at_ n v an orr : Int) (bl wl : Nat) (ra rn co ob : Int) (BA WA : Option Addr) (bc wc : Nat) (w : World) (hrt : rightP 43 at_ n v an orr bl wl ra rn co ob) :
    Calls Try.prog 41 #[.agg #[.int .i64 43, .int .i64 at_, .int .i64 n, .int .u16 v, .int .u16 an, .int .u16 orr, .slice BA bl bc, .slice WA wl wc, .int .i64 ra, .int .i64 rn, .int .i64 co, .int .i64 ob]] w fun e w' => ∃ R nr rc S ns sc, e = .returned (.tuple #[.slice R nr rc, .slice S ns sc]) ∧ OneRow w' R nr (spR 43 at_ n ra rn) ∧ OneRow w' S ns (spW 43 at_ n) ∧ Below w.heap.size w w' := by
  have hrt0 := hrt
  obtain ⟨_, hpl, ⟨a0, a1⟩, ⟨r0, r1⟩, hfit⟩ := hrt0
  unfold plainP at hpl
  unfold fitsP at hfit
  have hm1 : kMostR 43 ≤ 2000 := by decide
  have hm2 : kMostW 43 ≤ 2000 := by decide
  have n0 : 0 ≤ n := by omega
  have n1 : n ≤ 2000 := by omega
  have q0 : 0 ≤ rn := by omega
  have q1 : rn ≤ 2000 := by omega
  clear hpl hfit hm1 hm2
  have wr1 : IntKind.i64.wrap (at_ + 1) = at_ + 1 := IntWalk.i64_in _ (by omega)
  have wr2 : IntKind.i64.wrap (at_ + n) = at_ + n := IntWalk.i64_in _ (by omega)
  have wr3 : IntKind.i64.wrap (ra + rn) = ra + rn := IntWalk.i64_in _ (by omega)
  have HRt := Lib.hid hrt
  clear hrt
  have HT1 : Hid (kTab 43 = 0) := rfl
  have HT2 : Hid (kHas 43 = false) := rfl
  go_enter Try.func41, Try.ntmps41
  go_wp2_with (first
    | (go_at_call 42
       refine (right_yes 43 at_ n v an orr bl wl ra rn co ob BA WA bc wc _ HRt.out).mono ?_
       rintro e w4 ⟨rfl, hb4⟩
       have HB4 : Hid (Below w.heap.size w w4) := ((Below.refl _ _).alloc (Nat.le_refl _) _).trans (hb4.mono (by simp))
       have hk4 : Below (w.heap.size + 1) (w.alloc (.cells #[.int .i64 43, .int .i64 at_, .int .i64 n, .int .u16 v, .int .u16 an, .int .u16 orr, .slice BA bl bc, .slice WA wl wc, .int .i64 ra, .int .i64 rn, .int .i64 co, .int .i64 ob] 48)) w4 := by
         rwa [show (w.alloc (.cells #[.int .i64 43, .int .i64 at_, .int .i64 n, .int .u16 v, .int .u16 an, .int .u16 orr, .slice BA bl bc, .slice WA wl wc, .int .i64 ra, .int .i64 rn, .int .i64 co, .int .i64 ob] 48)).heap.size = w.heap.size + 1 by simp] at hb4
       obtain ⟨hc0, hc1, hc2, hc3, hc4, hc5, hc6, hc7, hc8, hc9, hc10, hc11⟩ := box12 _ _ _ _ _ _ _ _ _ _ _ _ _ w w4 hk4
       clear hb4 hk4 hc3 hc4 hc5 hc6 hc7 hc10 hc11)
    | (go_at_call 44; refine (table_lit 43 _ _ _ HT1.out HT2.out).mono ?_; rintro e w' ⟨rfl, rfl⟩))
  all_goals
    go_wp2
    go_ret2
    refine ⟨_, _, _, _, _, _, rfl, ?_, ?_, ?_⟩
    · first | exact (rfl : (0 : Nat) = 0) | exact one_new _ _ _ _ _ _ (Below.refl _ _) | exact one_new _ _ _ _ _ _ (Below.refl _ _).drew | exact one_new _ _ _ _ _ _ ((Below.refl _ _).alloc (Nat.le_refl _) _) | exact one_new _ _ _ _ _ _ ((Below.refl _ _).drew.alloc (Nat.le_refl _) _)
    · first | exact (rfl : (0 : Nat) = 0) | exact one_new _ _ _ _ _ _ (Below.refl _ _) | exact one_new _ _ _ _ _ _ (Below.refl _ _).drew | exact one_new _ _ _ _ _ _ ((Below.refl _ _).alloc (Nat.le_refl _) _) | exact one_new _ _ _ _ _ _ ((Below.refl _ _).drew.alloc (Nat.le_refl _) _)
    · first | exact HB4.out | exact HB4.out.alloc HB4.out.size _ | exact (HB4.out.alloc HB4.out.size _).drew | exact HB4.out.drew

theorem rspans_yes (fn at_ n v an orr : Int) (bl wl : Nat) (ra rn co ob : Int) (BA WA : Option Addr) (bc wc : Nat) (w : World) (h : rightP fn at_ n v an orr bl wl ra rn co ob) :
    Calls Try.prog 41 #[.agg #[.int .i64 fn, .int .i64 at_, .int .i64 n, .int .u16 v, .int .u16 an, .int .u16 orr, .slice BA bl bc, .slice WA wl wc, .int .i64 ra, .int .i64 rn, .int .i64 co, .int .i64 ob]] w fun e w' => ∃ R nr rc S ns sc, e = .returned (.tuple #[.slice R nr rc, .slice S ns sc]) ∧ OneRow w' R nr (spR fn at_ n ra rn) ∧ OneRow w' S ns (spW fn at_ n) ∧ Below w.heap.size w w' := by
  have hk := h.1
  rcases kinds fn with rfl | rfl | rfl | rfl | rfl | rfl | rfl | rfl | rfl | rfl | rfl | hno
  · exact rspans_1 at_ n v an orr bl wl ra rn co ob BA WA bc wc w h
  · exact rspans_2 at_ n v an orr bl wl ra rn co ob BA WA bc wc w h
  · exact rspans_3 at_ n v an orr bl wl ra rn co ob BA WA bc wc w h
  · exact rspans_4 at_ n v an orr bl wl ra rn co ob BA WA bc wc w h
  · exact rspans_5 at_ n v an orr bl wl ra rn co ob BA WA bc wc w h
  · exact rspans_6 at_ n v an orr bl wl ra rn co ob BA WA bc wc w h
  · exact rspans_15 at_ n v an orr bl wl ra rn co ob BA WA bc wc w h
  · exact rspans_16 at_ n v an orr bl wl ra rn co ob BA WA bc wc w h
  · exact rspans_22 at_ n v an orr bl wl ra rn co ob BA WA bc wc w h
  · exact rspans_23 at_ n v an orr bl wl ra rn co ob BA WA bc wc w h
  · exact rspans_43 at_ n v an orr bl wl ra rn co ob BA WA bc wc w h
  · rw [hno.known] at hk; cases hk

end Go.Proofs.Ytielfekkonflfaa

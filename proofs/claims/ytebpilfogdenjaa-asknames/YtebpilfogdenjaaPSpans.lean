/- Package ask: one, Spans. -/
import Derived.Test.YtebpilfogdenjaaPRight2
import Derived.Test.YtebpilfogdenjaaAskSpans
namespace Go.Proofs.Ytebpilfogdenjaa
open Go.ChangeShapes Go.WideShapes Go.ChangeAt Go.RowKit
set_option linter.unusedVariables false
set_option linter.unusedSimpArgs false

theorem one_any (t a n u : Int) (w : World) (h0 : 0 ≤ a) (h1 : a ≤ 100000) (n0 : 0 ≤ n) (n1 : n ≤ 100000) (hu : a + n = u) :
    Calls Try.prog 41 #[.int .i64 t, .int .i64 a, .int .i64 n] w fun e w' => ∃ g c, e = .returned (.slice (some ⟨g, 0, none⟩) 1 c) ∧ OneRow w' (some ⟨g, 0, none⟩) 1 (some (t, a, u)) ∧ Below w.heap.size w w' := by
  subst hu
  have wr : IntKind.i64.wrap (a + n) = a + n := IntWalk.i64_in _ (by omega)
  go_enter Try.func41, Try.ntmps41
  go_wp2
  go_ret
  exact ⟨_, _, rfl, one_new _ _ _ _ _ _ (Below.refl _ _), (Below.refl _ _).alloc (Nat.le_refl _) _⟩
theorem OneRow.cells {w : World} {g n : Nat} {t f u : Int} (h : OneRow w (some ⟨g, 0, none⟩) n (some (t, f, u))) : n = 1 ∧ g < w.heap.size ∧ w.cell? ⟨g, 0, none⟩ = some (.int .i64 t) ∧ w.cell? ⟨g, 1, none⟩ = some (.int .i64 f) ∧ w.cell? ⟨g, 2, none⟩ = some (.int .i64 u) := by
  obtain ⟨h1, g', h2, h3⟩ := h
  injection h2 with h2
  injection h2 with h2
  subst h2
  exact ⟨h1, h3⟩

theorem pspans_no (fn at_ n v an orr : Int) (bl wl : Nat) (ra rn co ob : Int) (BA WA : Option Addr) (bc wc : Nat) (w : World) (hw : Wide at_ n v an orr ra rn co ob) (h : ¬ rightP fn at_ n v an orr bl wl ra rn co ob) :
    Calls Try.prog 20 #[.agg #[.int .i64 fn, .int .i64 at_, .int .i64 n, .int .u16 v, .int .u16 an, .int .u16 orr, .slice BA bl bc, .slice WA wl wc, .int .i64 ra, .int .i64 rn, .int .i64 co, .int .i64 ob]] w fun e w' => e = .returned (.tuple #[.slice none 0 0, .slice none 0 0]) ∧ Below w.heap.size w w' := by
  have HRt := Lib.hid h
  have HW := Lib.hid hw
  clear h hw
  go_enter Try.func20, Try.ntmps20
  go_wp2_with (go_at_call 19; refine (pright_no fn at_ n v an orr bl wl ra rn co ob BA WA bc wc _ HW.out HRt.out).mono ?_; rintro e w4 ⟨rfl, hb4⟩)
  go_ret2
  exact ⟨rfl, ((Below.refl _ _).alloc (Nat.le_refl _) _).trans (hb4.mono (by simp))⟩

set_option maxHeartbeats 1000000 in
theorem pspans_1 (at_ n v an orr : Int) (bl wl : Nat) (ra rn co ob : Int) (BA WA : Option Addr) (bc wc : Nat) (w : World) (hw : Wide at_ n v an orr ra rn co ob) (hrt : rightP 1 at_ n v an orr bl wl ra rn co ob) :
    Calls Try.prog 20 #[.agg #[.int .i64 1, .int .i64 at_, .int .i64 n, .int .u16 v, .int .u16 an, .int .u16 orr, .slice BA bl bc, .slice WA wl wc, .int .i64 ra, .int .i64 rn, .int .i64 co, .int .i64 ob]] w fun e w' => ∃ R nr rc S ns sc, e = .returned (.tuple #[.slice R nr rc, .slice S ns sc]) ∧ OneRow w' R nr (spR 1 at_ n ra rn) ∧ OneRow w' S ns (spW 1 at_ n) ∧ Below w.heap.size w w' := by
  have hrt0 := hrt
  obtain ⟨_, hpl, ⟨a0, a1⟩, ⟨r0, r1⟩, hfit⟩ := hrt0
  unfold plainP at hpl
  unfold fitsP at hfit
  have hm1 : kMostR 1 ≤ 2000 := by decide
  have hm2 : kMostW 1 ≤ 2000 := by decide
  have n0 : 0 ≤ n := by omega
  have n1 : n ≤ 2000 := by omega
  have q0 : 0 ≤ rn := by omega
  have q1 : rn ≤ 2000 := by omega
  clear hpl hfit hm1 hm2
  have HRt := Lib.hid hrt
  have HW := Lib.hid hw
  clear hrt hw
  have HT1 : Hid (kTab 1 = 0) := rfl
  have HT2 : Hid (kHas 1 = true) := rfl
  go_enter Try.func20, Try.ntmps20
  go_wp2_with (first
    | (go_at_call 19
       refine (pright_yes 1 at_ n v an orr bl wl ra rn co ob BA WA bc wc _ HW.out HRt.out).mono ?_
       rintro e w4 ⟨rfl, hb4⟩
       have HB4 : Hid (Below w.heap.size w w4) := ((Below.refl _ _).alloc (Nat.le_refl _) _).trans (hb4.mono (by simp))
       have hk4 : Below (w.heap.size + 1) (w.alloc (.cells #[.int .i64 1, .int .i64 at_, .int .i64 n, .int .u16 v, .int .u16 an, .int .u16 orr, .slice BA bl bc, .slice WA wl wc, .int .i64 ra, .int .i64 rn, .int .i64 co, .int .i64 ob] 30)) w4 := by
         rwa [show (w.alloc (.cells #[.int .i64 1, .int .i64 at_, .int .i64 n, .int .u16 v, .int .u16 an, .int .u16 orr, .slice BA bl bc, .slice WA wl wc, .int .i64 ra, .int .i64 rn, .int .i64 co, .int .i64 ob] 30)).heap.size = w.heap.size + 1 by simp] at hb4
       obtain ⟨hc0, hc1, hc2, hc3, hc4, hc5, hc6, hc7, hc8, hc9, hc10, hc11⟩ := box12 _ _ _ _ _ _ _ _ _ _ _ _ _ w w4 hk4
       have HK4 := Lib.hid hk4
       clear hb4 hk4 hc3 hc4 hc5 hc6 hc7 hc10 hc11)
    | (go_at_call 40; refine (ptable_lit 1 _ _ _ HT1.out HT2.out).mono ?_; rintro e w' ⟨rfl, rfl⟩)
    | (go_at_call 41
       (with_reducible refine (one_any 0 at_ n _ _ (by omega) (by omega) (by omega) (by omega) rfl).mono ?_)
       rintro e w5 ⟨g5, c5, rfl, ho5, hb5⟩
       have HO5 := Lib.hid ho5
       have HB5 : Hid (Below w.heap.size w w5) := HB4.out.trans (hb5.mono HB4.out.size)
       have HC5 := Lib.hid hb5
       clear ho5 hb5))
  go_ret2
  exact ⟨_, _, _, _, _, _, rfl, HO5.out, (rfl : (0 : Nat) = 0), HB5.out⟩

set_option maxHeartbeats 1000000 in
theorem pspans_2 (at_ n v an orr : Int) (bl wl : Nat) (ra rn co ob : Int) (BA WA : Option Addr) (bc wc : Nat) (w : World) (hw : Wide at_ n v an orr ra rn co ob) (hrt : rightP 2 at_ n v an orr bl wl ra rn co ob) :
    Calls Try.prog 20 #[.agg #[.int .i64 2, .int .i64 at_, .int .i64 n, .int .u16 v, .int .u16 an, .int .u16 orr, .slice BA bl bc, .slice WA wl wc, .int .i64 ra, .int .i64 rn, .int .i64 co, .int .i64 ob]] w fun e w' => ∃ R nr rc S ns sc, e = .returned (.tuple #[.slice R nr rc, .slice S ns sc]) ∧ OneRow w' R nr (spR 2 at_ n ra rn) ∧ OneRow w' S ns (spW 2 at_ n) ∧ Below w.heap.size w w' := by
  have hrt0 := hrt
  obtain ⟨_, hpl, ⟨a0, a1⟩, ⟨r0, r1⟩, hfit⟩ := hrt0
  unfold plainP at hpl
  unfold fitsP at hfit
  have hm1 : kMostR 2 ≤ 2000 := by decide
  have hm2 : kMostW 2 ≤ 2000 := by decide
  have n0 : 0 ≤ n := by omega
  have n1 : n ≤ 2000 := by omega
  have q0 : 0 ≤ rn := by omega
  have q1 : rn ≤ 2000 := by omega
  clear hpl hfit hm1 hm2
  have HRt := Lib.hid hrt
  have HW := Lib.hid hw
  clear hrt hw
  have HT1 : Hid (kTab 2 = 1) := rfl
  have HT2 : Hid (kHas 2 = true) := rfl
  go_enter Try.func20, Try.ntmps20
  go_wp2_with (first
    | (go_at_call 19
       refine (pright_yes 2 at_ n v an orr bl wl ra rn co ob BA WA bc wc _ HW.out HRt.out).mono ?_
       rintro e w4 ⟨rfl, hb4⟩
       have HB4 : Hid (Below w.heap.size w w4) := ((Below.refl _ _).alloc (Nat.le_refl _) _).trans (hb4.mono (by simp))
       have hk4 : Below (w.heap.size + 1) (w.alloc (.cells #[.int .i64 2, .int .i64 at_, .int .i64 n, .int .u16 v, .int .u16 an, .int .u16 orr, .slice BA bl bc, .slice WA wl wc, .int .i64 ra, .int .i64 rn, .int .i64 co, .int .i64 ob] 30)) w4 := by
         rwa [show (w.alloc (.cells #[.int .i64 2, .int .i64 at_, .int .i64 n, .int .u16 v, .int .u16 an, .int .u16 orr, .slice BA bl bc, .slice WA wl wc, .int .i64 ra, .int .i64 rn, .int .i64 co, .int .i64 ob] 30)).heap.size = w.heap.size + 1 by simp] at hb4
       obtain ⟨hc0, hc1, hc2, hc3, hc4, hc5, hc6, hc7, hc8, hc9, hc10, hc11⟩ := box12 _ _ _ _ _ _ _ _ _ _ _ _ _ w w4 hk4
       have HK4 := Lib.hid hk4
       clear hb4 hk4 hc3 hc4 hc5 hc6 hc7 hc10 hc11)
    | (go_at_call 40; refine (ptable_lit 2 _ _ _ HT1.out HT2.out).mono ?_; rintro e w' ⟨rfl, rfl⟩)
    | (go_at_call 41
       (with_reducible refine (one_any 1 at_ n _ _ (by omega) (by omega) (by omega) (by omega) rfl).mono ?_)
       rintro e w5 ⟨g5, c5, rfl, ho5, hb5⟩
       have HO5 := Lib.hid ho5
       have HB5 : Hid (Below w.heap.size w w5) := HB4.out.trans (hb5.mono HB4.out.size)
       have HC5 := Lib.hid hb5
       clear ho5 hb5))
  go_ret2
  exact ⟨_, _, _, _, _, _, rfl, HO5.out, (rfl : (0 : Nat) = 0), HB5.out⟩

set_option maxHeartbeats 1000000 in
theorem pspans_3 (at_ n v an orr : Int) (bl wl : Nat) (ra rn co ob : Int) (BA WA : Option Addr) (bc wc : Nat) (w : World) (hw : Wide at_ n v an orr ra rn co ob) (hrt : rightP 3 at_ n v an orr bl wl ra rn co ob) :
    Calls Try.prog 20 #[.agg #[.int .i64 3, .int .i64 at_, .int .i64 n, .int .u16 v, .int .u16 an, .int .u16 orr, .slice BA bl bc, .slice WA wl wc, .int .i64 ra, .int .i64 rn, .int .i64 co, .int .i64 ob]] w fun e w' => ∃ R nr rc S ns sc, e = .returned (.tuple #[.slice R nr rc, .slice S ns sc]) ∧ OneRow w' R nr (spR 3 at_ n ra rn) ∧ OneRow w' S ns (spW 3 at_ n) ∧ Below w.heap.size w w' := by
  have hrt0 := hrt
  obtain ⟨_, hpl, ⟨a0, a1⟩, ⟨r0, r1⟩, hfit⟩ := hrt0
  unfold plainP at hpl
  unfold fitsP at hfit
  have hm1 : kMostR 3 ≤ 2000 := by decide
  have hm2 : kMostW 3 ≤ 2000 := by decide
  have n0 : 0 ≤ n := by omega
  have n1 : n ≤ 2000 := by omega
  have q0 : 0 ≤ rn := by omega
  have q1 : rn ≤ 2000 := by omega
  clear hpl hfit hm1 hm2
  have HRt := Lib.hid hrt
  have HW := Lib.hid hw
  clear hrt hw
  have HT1 : Hid (kTab 3 = 2) := rfl
  have HT2 : Hid (kHas 3 = true) := rfl
  go_enter Try.func20, Try.ntmps20
  go_wp2_with (first
    | (go_at_call 19
       refine (pright_yes 3 at_ n v an orr bl wl ra rn co ob BA WA bc wc _ HW.out HRt.out).mono ?_
       rintro e w4 ⟨rfl, hb4⟩
       have HB4 : Hid (Below w.heap.size w w4) := ((Below.refl _ _).alloc (Nat.le_refl _) _).trans (hb4.mono (by simp))
       have hk4 : Below (w.heap.size + 1) (w.alloc (.cells #[.int .i64 3, .int .i64 at_, .int .i64 n, .int .u16 v, .int .u16 an, .int .u16 orr, .slice BA bl bc, .slice WA wl wc, .int .i64 ra, .int .i64 rn, .int .i64 co, .int .i64 ob] 30)) w4 := by
         rwa [show (w.alloc (.cells #[.int .i64 3, .int .i64 at_, .int .i64 n, .int .u16 v, .int .u16 an, .int .u16 orr, .slice BA bl bc, .slice WA wl wc, .int .i64 ra, .int .i64 rn, .int .i64 co, .int .i64 ob] 30)).heap.size = w.heap.size + 1 by simp] at hb4
       obtain ⟨hc0, hc1, hc2, hc3, hc4, hc5, hc6, hc7, hc8, hc9, hc10, hc11⟩ := box12 _ _ _ _ _ _ _ _ _ _ _ _ _ w w4 hk4
       have HK4 := Lib.hid hk4
       clear hb4 hk4 hc3 hc4 hc5 hc6 hc7 hc10 hc11)
    | (go_at_call 40; refine (ptable_lit 3 _ _ _ HT1.out HT2.out).mono ?_; rintro e w' ⟨rfl, rfl⟩)
    | (go_at_call 41
       (with_reducible refine (one_any 2 at_ n _ _ (by omega) (by omega) (by omega) (by omega) rfl).mono ?_)
       rintro e w5 ⟨g5, c5, rfl, ho5, hb5⟩
       have HO5 := Lib.hid ho5
       have HB5 : Hid (Below w.heap.size w w5) := HB4.out.trans (hb5.mono HB4.out.size)
       have HC5 := Lib.hid hb5
       clear ho5 hb5))
  go_ret2
  exact ⟨_, _, _, _, _, _, rfl, HO5.out, (rfl : (0 : Nat) = 0), HB5.out⟩

set_option maxHeartbeats 1000000 in
theorem pspans_4 (at_ n v an orr : Int) (bl wl : Nat) (ra rn co ob : Int) (BA WA : Option Addr) (bc wc : Nat) (w : World) (hw : Wide at_ n v an orr ra rn co ob) (hrt : rightP 4 at_ n v an orr bl wl ra rn co ob) :
    Calls Try.prog 20 #[.agg #[.int .i64 4, .int .i64 at_, .int .i64 n, .int .u16 v, .int .u16 an, .int .u16 orr, .slice BA bl bc, .slice WA wl wc, .int .i64 ra, .int .i64 rn, .int .i64 co, .int .i64 ob]] w fun e w' => ∃ R nr rc S ns sc, e = .returned (.tuple #[.slice R nr rc, .slice S ns sc]) ∧ OneRow w' R nr (spR 4 at_ n ra rn) ∧ OneRow w' S ns (spW 4 at_ n) ∧ Below w.heap.size w w' := by
  have hrt0 := hrt
  obtain ⟨_, hpl, ⟨a0, a1⟩, ⟨r0, r1⟩, hfit⟩ := hrt0
  unfold plainP at hpl
  unfold fitsP at hfit
  have hm1 : kMostR 4 ≤ 2000 := by decide
  have hm2 : kMostW 4 ≤ 2000 := by decide
  have n0 : 0 ≤ n := by omega
  have n1 : n ≤ 2000 := by omega
  have q0 : 0 ≤ rn := by omega
  have q1 : rn ≤ 2000 := by omega
  clear hpl hfit hm1 hm2
  have HRt := Lib.hid hrt
  have HW := Lib.hid hw
  clear hrt hw
  have HT1 : Hid (kTab 4 = 3) := rfl
  have HT2 : Hid (kHas 4 = true) := rfl
  go_enter Try.func20, Try.ntmps20
  go_wp2_with (first
    | (go_at_call 19
       refine (pright_yes 4 at_ n v an orr bl wl ra rn co ob BA WA bc wc _ HW.out HRt.out).mono ?_
       rintro e w4 ⟨rfl, hb4⟩
       have HB4 : Hid (Below w.heap.size w w4) := ((Below.refl _ _).alloc (Nat.le_refl _) _).trans (hb4.mono (by simp))
       have hk4 : Below (w.heap.size + 1) (w.alloc (.cells #[.int .i64 4, .int .i64 at_, .int .i64 n, .int .u16 v, .int .u16 an, .int .u16 orr, .slice BA bl bc, .slice WA wl wc, .int .i64 ra, .int .i64 rn, .int .i64 co, .int .i64 ob] 30)) w4 := by
         rwa [show (w.alloc (.cells #[.int .i64 4, .int .i64 at_, .int .i64 n, .int .u16 v, .int .u16 an, .int .u16 orr, .slice BA bl bc, .slice WA wl wc, .int .i64 ra, .int .i64 rn, .int .i64 co, .int .i64 ob] 30)).heap.size = w.heap.size + 1 by simp] at hb4
       obtain ⟨hc0, hc1, hc2, hc3, hc4, hc5, hc6, hc7, hc8, hc9, hc10, hc11⟩ := box12 _ _ _ _ _ _ _ _ _ _ _ _ _ w w4 hk4
       have HK4 := Lib.hid hk4
       clear hb4 hk4 hc3 hc4 hc5 hc6 hc7 hc10 hc11)
    | (go_at_call 40; refine (ptable_lit 4 _ _ _ HT1.out HT2.out).mono ?_; rintro e w' ⟨rfl, rfl⟩)
    | (go_at_call 41
       (with_reducible refine (one_any 3 at_ n _ _ (by omega) (by omega) (by omega) (by omega) rfl).mono ?_)
       rintro e w5 ⟨g5, c5, rfl, ho5, hb5⟩
       have HO5 := Lib.hid ho5
       have HB5 : Hid (Below w.heap.size w w5) := HB4.out.trans (hb5.mono HB4.out.size)
       have HC5 := Lib.hid hb5
       clear ho5 hb5))
  go_ret2
  exact ⟨_, _, _, _, _, _, rfl, HO5.out, (rfl : (0 : Nat) = 0), HB5.out⟩

set_option maxHeartbeats 1000000 in
theorem pspans_5 (at_ n v an orr : Int) (bl wl : Nat) (ra rn co ob : Int) (BA WA : Option Addr) (bc wc : Nat) (w : World) (hw : Wide at_ n v an orr ra rn co ob) (hrt : rightP 5 at_ n v an orr bl wl ra rn co ob) :
    Calls Try.prog 20 #[.agg #[.int .i64 5, .int .i64 at_, .int .i64 n, .int .u16 v, .int .u16 an, .int .u16 orr, .slice BA bl bc, .slice WA wl wc, .int .i64 ra, .int .i64 rn, .int .i64 co, .int .i64 ob]] w fun e w' => ∃ R nr rc S ns sc, e = .returned (.tuple #[.slice R nr rc, .slice S ns sc]) ∧ OneRow w' R nr (spR 5 at_ n ra rn) ∧ OneRow w' S ns (spW 5 at_ n) ∧ Below w.heap.size w w' := by
  have hrt0 := hrt
  obtain ⟨_, hpl, ⟨a0, a1⟩, ⟨r0, r1⟩, hfit⟩ := hrt0
  unfold plainP at hpl
  unfold fitsP at hfit
  have hm1 : kMostR 5 ≤ 2000 := by decide
  have hm2 : kMostW 5 ≤ 2000 := by decide
  have n0 : 0 ≤ n := by omega
  have n1 : n ≤ 2000 := by omega
  have q0 : 0 ≤ rn := by omega
  have q1 : rn ≤ 2000 := by omega
  clear hpl hfit hm1 hm2
  have HRt := Lib.hid hrt
  have HW := Lib.hid hw
  clear hrt hw
  have HT1 : Hid (kTab 5 = 0) := rfl
  have HT2 : Hid (kHas 5 = true) := rfl
  go_enter Try.func20, Try.ntmps20
  go_wp2_with (first
    | (go_at_call 19
       refine (pright_yes 5 at_ n v an orr bl wl ra rn co ob BA WA bc wc _ HW.out HRt.out).mono ?_
       rintro e w4 ⟨rfl, hb4⟩
       have HB4 : Hid (Below w.heap.size w w4) := ((Below.refl _ _).alloc (Nat.le_refl _) _).trans (hb4.mono (by simp))
       have hk4 : Below (w.heap.size + 1) (w.alloc (.cells #[.int .i64 5, .int .i64 at_, .int .i64 n, .int .u16 v, .int .u16 an, .int .u16 orr, .slice BA bl bc, .slice WA wl wc, .int .i64 ra, .int .i64 rn, .int .i64 co, .int .i64 ob] 30)) w4 := by
         rwa [show (w.alloc (.cells #[.int .i64 5, .int .i64 at_, .int .i64 n, .int .u16 v, .int .u16 an, .int .u16 orr, .slice BA bl bc, .slice WA wl wc, .int .i64 ra, .int .i64 rn, .int .i64 co, .int .i64 ob] 30)).heap.size = w.heap.size + 1 by simp] at hb4
       obtain ⟨hc0, hc1, hc2, hc3, hc4, hc5, hc6, hc7, hc8, hc9, hc10, hc11⟩ := box12 _ _ _ _ _ _ _ _ _ _ _ _ _ w w4 hk4
       have HK4 := Lib.hid hk4
       clear hb4 hk4 hc3 hc4 hc5 hc6 hc7 hc10 hc11)
    | (go_at_call 40; refine (ptable_lit 5 _ _ _ HT1.out HT2.out).mono ?_; rintro e w' ⟨rfl, rfl⟩)
    | (go_at_call 41
       (with_reducible refine (one_any 0 at_ 1 _ _ (by omega) (by omega) (by omega) (by omega) rfl).mono ?_)
       rintro e w5 ⟨g5, c5, rfl, ho5, hb5⟩
       have HO5 := Lib.hid ho5
       have HB5 : Hid (Below w.heap.size w w5) := HB4.out.trans (hb5.mono HB4.out.size)
       have HC5 := Lib.hid hb5
       clear ho5 hb5))
  go_ret2
  exact ⟨_, _, _, _, _, _, rfl, (rfl : (0 : Nat) = 0), HO5.out, HB5.out⟩

set_option maxHeartbeats 1000000 in
theorem pspans_6 (at_ n v an orr : Int) (bl wl : Nat) (ra rn co ob : Int) (BA WA : Option Addr) (bc wc : Nat) (w : World) (hw : Wide at_ n v an orr ra rn co ob) (hrt : rightP 6 at_ n v an orr bl wl ra rn co ob) :
    Calls Try.prog 20 #[.agg #[.int .i64 6, .int .i64 at_, .int .i64 n, .int .u16 v, .int .u16 an, .int .u16 orr, .slice BA bl bc, .slice WA wl wc, .int .i64 ra, .int .i64 rn, .int .i64 co, .int .i64 ob]] w fun e w' => ∃ R nr rc S ns sc, e = .returned (.tuple #[.slice R nr rc, .slice S ns sc]) ∧ OneRow w' R nr (spR 6 at_ n ra rn) ∧ OneRow w' S ns (spW 6 at_ n) ∧ Below w.heap.size w w' := by
  have hrt0 := hrt
  obtain ⟨_, hpl, ⟨a0, a1⟩, ⟨r0, r1⟩, hfit⟩ := hrt0
  unfold plainP at hpl
  unfold fitsP at hfit
  have hm1 : kMostR 6 ≤ 2000 := by decide
  have hm2 : kMostW 6 ≤ 2000 := by decide
  have n0 : 0 ≤ n := by omega
  have n1 : n ≤ 2000 := by omega
  have q0 : 0 ≤ rn := by omega
  have q1 : rn ≤ 2000 := by omega
  clear hpl hfit hm1 hm2
  have HRt := Lib.hid hrt
  have HW := Lib.hid hw
  clear hrt hw
  have HT1 : Hid (kTab 6 = 2) := rfl
  have HT2 : Hid (kHas 6 = true) := rfl
  go_enter Try.func20, Try.ntmps20
  go_wp2_with (first
    | (go_at_call 19
       refine (pright_yes 6 at_ n v an orr bl wl ra rn co ob BA WA bc wc _ HW.out HRt.out).mono ?_
       rintro e w4 ⟨rfl, hb4⟩
       have HB4 : Hid (Below w.heap.size w w4) := ((Below.refl _ _).alloc (Nat.le_refl _) _).trans (hb4.mono (by simp))
       have hk4 : Below (w.heap.size + 1) (w.alloc (.cells #[.int .i64 6, .int .i64 at_, .int .i64 n, .int .u16 v, .int .u16 an, .int .u16 orr, .slice BA bl bc, .slice WA wl wc, .int .i64 ra, .int .i64 rn, .int .i64 co, .int .i64 ob] 30)) w4 := by
         rwa [show (w.alloc (.cells #[.int .i64 6, .int .i64 at_, .int .i64 n, .int .u16 v, .int .u16 an, .int .u16 orr, .slice BA bl bc, .slice WA wl wc, .int .i64 ra, .int .i64 rn, .int .i64 co, .int .i64 ob] 30)).heap.size = w.heap.size + 1 by simp] at hb4
       obtain ⟨hc0, hc1, hc2, hc3, hc4, hc5, hc6, hc7, hc8, hc9, hc10, hc11⟩ := box12 _ _ _ _ _ _ _ _ _ _ _ _ _ w w4 hk4
       have HK4 := Lib.hid hk4
       clear hb4 hk4 hc3 hc4 hc5 hc6 hc7 hc10 hc11)
    | (go_at_call 40; refine (ptable_lit 6 _ _ _ HT1.out HT2.out).mono ?_; rintro e w' ⟨rfl, rfl⟩)
    | (go_at_call 41
       (with_reducible refine (one_any 2 at_ 1 _ _ (by omega) (by omega) (by omega) (by omega) rfl).mono ?_)
       rintro e w5 ⟨g5, c5, rfl, ho5, hb5⟩
       have HO5 := Lib.hid ho5
       have HB5 : Hid (Below w.heap.size w w5) := HB4.out.trans (hb5.mono HB4.out.size)
       have HC5 := Lib.hid hb5
       clear ho5 hb5))
  go_ret2
  exact ⟨_, _, _, _, _, _, rfl, (rfl : (0 : Nat) = 0), HO5.out, HB5.out⟩

set_option maxHeartbeats 1000000 in
theorem pspans_15 (at_ n v an orr : Int) (bl wl : Nat) (ra rn co ob : Int) (BA WA : Option Addr) (bc wc : Nat) (w : World) (hw : Wide at_ n v an orr ra rn co ob) (hrt : rightP 15 at_ n v an orr bl wl ra rn co ob) :
    Calls Try.prog 20 #[.agg #[.int .i64 15, .int .i64 at_, .int .i64 n, .int .u16 v, .int .u16 an, .int .u16 orr, .slice BA bl bc, .slice WA wl wc, .int .i64 ra, .int .i64 rn, .int .i64 co, .int .i64 ob]] w fun e w' => ∃ R nr rc S ns sc, e = .returned (.tuple #[.slice R nr rc, .slice S ns sc]) ∧ OneRow w' R nr (spR 15 at_ n ra rn) ∧ OneRow w' S ns (spW 15 at_ n) ∧ Below w.heap.size w w' := by
  have hrt0 := hrt
  obtain ⟨_, hpl, ⟨a0, a1⟩, ⟨r0, r1⟩, hfit⟩ := hrt0
  unfold plainP at hpl
  unfold fitsP at hfit
  have hm1 : kMostR 15 ≤ 2000 := by decide
  have hm2 : kMostW 15 ≤ 2000 := by decide
  have n0 : 0 ≤ n := by omega
  have n1 : n ≤ 2000 := by omega
  have q0 : 0 ≤ rn := by omega
  have q1 : rn ≤ 2000 := by omega
  clear hpl hfit hm1 hm2
  have HRt := Lib.hid hrt
  have HW := Lib.hid hw
  clear hrt hw
  have HT1 : Hid (kTab 15 = 0) := rfl
  have HT2 : Hid (kHas 15 = true) := rfl
  go_enter Try.func20, Try.ntmps20
  go_wp2_with (first
    | (go_at_call 19
       refine (pright_yes 15 at_ n v an orr bl wl ra rn co ob BA WA bc wc _ HW.out HRt.out).mono ?_
       rintro e w4 ⟨rfl, hb4⟩
       have HB4 : Hid (Below w.heap.size w w4) := ((Below.refl _ _).alloc (Nat.le_refl _) _).trans (hb4.mono (by simp))
       have hk4 : Below (w.heap.size + 1) (w.alloc (.cells #[.int .i64 15, .int .i64 at_, .int .i64 n, .int .u16 v, .int .u16 an, .int .u16 orr, .slice BA bl bc, .slice WA wl wc, .int .i64 ra, .int .i64 rn, .int .i64 co, .int .i64 ob] 30)) w4 := by
         rwa [show (w.alloc (.cells #[.int .i64 15, .int .i64 at_, .int .i64 n, .int .u16 v, .int .u16 an, .int .u16 orr, .slice BA bl bc, .slice WA wl wc, .int .i64 ra, .int .i64 rn, .int .i64 co, .int .i64 ob] 30)).heap.size = w.heap.size + 1 by simp] at hb4
       obtain ⟨hc0, hc1, hc2, hc3, hc4, hc5, hc6, hc7, hc8, hc9, hc10, hc11⟩ := box12 _ _ _ _ _ _ _ _ _ _ _ _ _ w w4 hk4
       have HK4 := Lib.hid hk4
       clear hb4 hk4 hc3 hc4 hc5 hc6 hc7 hc10 hc11)
    | (go_at_call 40; refine (ptable_lit 15 _ _ _ HT1.out HT2.out).mono ?_; rintro e w' ⟨rfl, rfl⟩)
    | (go_at_call 41
       (with_reducible refine (one_any 0 at_ n _ _ (by omega) (by omega) (by omega) (by omega) rfl).mono ?_)
       rintro e w5 ⟨g5, c5, rfl, ho5, hb5⟩
       have HO5 := Lib.hid ho5
       have HB5 : Hid (Below w.heap.size w w5) := HB4.out.trans (hb5.mono HB4.out.size)
       have HC5 := Lib.hid hb5
       clear ho5 hb5))
  go_ret2
  exact ⟨_, _, _, _, _, _, rfl, (rfl : (0 : Nat) = 0), HO5.out, HB5.out⟩

set_option maxHeartbeats 1000000 in
theorem pspans_16 (at_ n v an orr : Int) (bl wl : Nat) (ra rn co ob : Int) (BA WA : Option Addr) (bc wc : Nat) (w : World) (hw : Wide at_ n v an orr ra rn co ob) (hrt : rightP 16 at_ n v an orr bl wl ra rn co ob) :
    Calls Try.prog 20 #[.agg #[.int .i64 16, .int .i64 at_, .int .i64 n, .int .u16 v, .int .u16 an, .int .u16 orr, .slice BA bl bc, .slice WA wl wc, .int .i64 ra, .int .i64 rn, .int .i64 co, .int .i64 ob]] w fun e w' => ∃ R nr rc S ns sc, e = .returned (.tuple #[.slice R nr rc, .slice S ns sc]) ∧ OneRow w' R nr (spR 16 at_ n ra rn) ∧ OneRow w' S ns (spW 16 at_ n) ∧ Below w.heap.size w w' := by
  have hrt0 := hrt
  obtain ⟨_, hpl, ⟨a0, a1⟩, ⟨r0, r1⟩, hfit⟩ := hrt0
  unfold plainP at hpl
  unfold fitsP at hfit
  have hm1 : kMostR 16 ≤ 2000 := by decide
  have hm2 : kMostW 16 ≤ 2000 := by decide
  have n0 : 0 ≤ n := by omega
  have n1 : n ≤ 2000 := by omega
  have q0 : 0 ≤ rn := by omega
  have q1 : rn ≤ 2000 := by omega
  clear hpl hfit hm1 hm2
  have HRt := Lib.hid hrt
  have HW := Lib.hid hw
  clear hrt hw
  have HT1 : Hid (kTab 16 = 2) := rfl
  have HT2 : Hid (kHas 16 = true) := rfl
  go_enter Try.func20, Try.ntmps20
  go_wp2_with (first
    | (go_at_call 19
       refine (pright_yes 16 at_ n v an orr bl wl ra rn co ob BA WA bc wc _ HW.out HRt.out).mono ?_
       rintro e w4 ⟨rfl, hb4⟩
       have HB4 : Hid (Below w.heap.size w w4) := ((Below.refl _ _).alloc (Nat.le_refl _) _).trans (hb4.mono (by simp))
       have hk4 : Below (w.heap.size + 1) (w.alloc (.cells #[.int .i64 16, .int .i64 at_, .int .i64 n, .int .u16 v, .int .u16 an, .int .u16 orr, .slice BA bl bc, .slice WA wl wc, .int .i64 ra, .int .i64 rn, .int .i64 co, .int .i64 ob] 30)) w4 := by
         rwa [show (w.alloc (.cells #[.int .i64 16, .int .i64 at_, .int .i64 n, .int .u16 v, .int .u16 an, .int .u16 orr, .slice BA bl bc, .slice WA wl wc, .int .i64 ra, .int .i64 rn, .int .i64 co, .int .i64 ob] 30)).heap.size = w.heap.size + 1 by simp] at hb4
       obtain ⟨hc0, hc1, hc2, hc3, hc4, hc5, hc6, hc7, hc8, hc9, hc10, hc11⟩ := box12 _ _ _ _ _ _ _ _ _ _ _ _ _ w w4 hk4
       have HK4 := Lib.hid hk4
       clear hb4 hk4 hc3 hc4 hc5 hc6 hc7 hc10 hc11)
    | (go_at_call 40; refine (ptable_lit 16 _ _ _ HT1.out HT2.out).mono ?_; rintro e w' ⟨rfl, rfl⟩)
    | (go_at_call 41
       (with_reducible refine (one_any 2 at_ n _ _ (by omega) (by omega) (by omega) (by omega) rfl).mono ?_)
       rintro e w5 ⟨g5, c5, rfl, ho5, hb5⟩
       have HO5 := Lib.hid ho5
       have HB5 : Hid (Below w.heap.size w w5) := HB4.out.trans (hb5.mono HB4.out.size)
       have HC5 := Lib.hid hb5
       clear ho5 hb5))
  go_ret2
  exact ⟨_, _, _, _, _, _, rfl, (rfl : (0 : Nat) = 0), HO5.out, HB5.out⟩

set_option maxHeartbeats 1000000 in
theorem pspans_22 (at_ n v an orr : Int) (bl wl : Nat) (ra rn co ob : Int) (BA WA : Option Addr) (bc wc : Nat) (w : World) (hw : Wide at_ n v an orr ra rn co ob) (hrt : rightP 22 at_ n v an orr bl wl ra rn co ob) :
    Calls Try.prog 20 #[.agg #[.int .i64 22, .int .i64 at_, .int .i64 n, .int .u16 v, .int .u16 an, .int .u16 orr, .slice BA bl bc, .slice WA wl wc, .int .i64 ra, .int .i64 rn, .int .i64 co, .int .i64 ob]] w fun e w' => ∃ R nr rc S ns sc, e = .returned (.tuple #[.slice R nr rc, .slice S ns sc]) ∧ OneRow w' R nr (spR 22 at_ n ra rn) ∧ OneRow w' S ns (spW 22 at_ n) ∧ Below w.heap.size w w' := by
  have hrt0 := hrt
  obtain ⟨_, hpl, ⟨a0, a1⟩, ⟨r0, r1⟩, hfit⟩ := hrt0
  unfold plainP at hpl
  unfold fitsP at hfit
  have hm1 : kMostR 22 ≤ 2000 := by decide
  have hm2 : kMostW 22 ≤ 2000 := by decide
  have n0 : 0 ≤ n := by omega
  have n1 : n ≤ 2000 := by omega
  have q0 : 0 ≤ rn := by omega
  have q1 : rn ≤ 2000 := by omega
  clear hpl hfit hm1 hm2
  have HRt := Lib.hid hrt
  have HW := Lib.hid hw
  clear hrt hw
  have HT1 : Hid (kTab 22 = 2) := rfl
  have HT2 : Hid (kHas 22 = true) := rfl
  go_enter Try.func20, Try.ntmps20
  go_wp2_with (first
    | (go_at_call 19
       refine (pright_yes 22 at_ n v an orr bl wl ra rn co ob BA WA bc wc _ HW.out HRt.out).mono ?_
       rintro e w4 ⟨rfl, hb4⟩
       have HB4 : Hid (Below w.heap.size w w4) := ((Below.refl _ _).alloc (Nat.le_refl _) _).trans (hb4.mono (by simp))
       have hk4 : Below (w.heap.size + 1) (w.alloc (.cells #[.int .i64 22, .int .i64 at_, .int .i64 n, .int .u16 v, .int .u16 an, .int .u16 orr, .slice BA bl bc, .slice WA wl wc, .int .i64 ra, .int .i64 rn, .int .i64 co, .int .i64 ob] 30)) w4 := by
         rwa [show (w.alloc (.cells #[.int .i64 22, .int .i64 at_, .int .i64 n, .int .u16 v, .int .u16 an, .int .u16 orr, .slice BA bl bc, .slice WA wl wc, .int .i64 ra, .int .i64 rn, .int .i64 co, .int .i64 ob] 30)).heap.size = w.heap.size + 1 by simp] at hb4
       obtain ⟨hc0, hc1, hc2, hc3, hc4, hc5, hc6, hc7, hc8, hc9, hc10, hc11⟩ := box12 _ _ _ _ _ _ _ _ _ _ _ _ _ w w4 hk4
       have HK4 := Lib.hid hk4
       clear hb4 hk4 hc3 hc4 hc5 hc6 hc7 hc10 hc11)
    | (go_at_call 40; refine (ptable_lit 22 _ _ _ HT1.out HT2.out).mono ?_; rintro e w' ⟨rfl, rfl⟩)
    | (go_at_call 41
       (with_reducible refine (one_any 2 at_ 1 _ _ (by omega) (by omega) (by omega) (by omega) rfl).mono ?_)
       rintro e w5 ⟨g5, c5, rfl, ho5, hb5⟩
       have HO5 := Lib.hid ho5
       have HB5 : Hid (Below w.heap.size w w5) := HB4.out.trans (hb5.mono HB4.out.size)
       have HC5 := Lib.hid hb5
       clear ho5 hb5))
  go_ret2
  exact ⟨_, _, _, _, _, _, rfl, (rfl : (0 : Nat) = 0), HO5.out, HB5.out⟩

set_option maxHeartbeats 1000000 in
theorem pspans_23 (at_ n v an orr : Int) (bl wl : Nat) (ra rn co ob : Int) (BA WA : Option Addr) (bc wc : Nat) (w : World) (hw : Wide at_ n v an orr ra rn co ob) (hrt : rightP 23 at_ n v an orr bl wl ra rn co ob) :
    Calls Try.prog 20 #[.agg #[.int .i64 23, .int .i64 at_, .int .i64 n, .int .u16 v, .int .u16 an, .int .u16 orr, .slice BA bl bc, .slice WA wl wc, .int .i64 ra, .int .i64 rn, .int .i64 co, .int .i64 ob]] w fun e w' => ∃ R nr rc S ns sc, e = .returned (.tuple #[.slice R nr rc, .slice S ns sc]) ∧ OneRow w' R nr (spR 23 at_ n ra rn) ∧ OneRow w' S ns (spW 23 at_ n) ∧ Below w.heap.size w w' := by
  have hrt0 := hrt
  obtain ⟨_, hpl, ⟨a0, a1⟩, ⟨r0, r1⟩, hfit⟩ := hrt0
  unfold plainP at hpl
  unfold fitsP at hfit
  have hm1 : kMostR 23 ≤ 2000 := by decide
  have hm2 : kMostW 23 ≤ 2000 := by decide
  have n0 : 0 ≤ n := by omega
  have n1 : n ≤ 2000 := by omega
  have q0 : 0 ≤ rn := by omega
  have q1 : rn ≤ 2000 := by omega
  clear hpl hfit hm1 hm2
  have HRt := Lib.hid hrt
  have HW := Lib.hid hw
  clear hrt hw
  have HT1 : Hid (kTab 23 = 2) := rfl
  have HT2 : Hid (kHas 23 = true) := rfl
  go_enter Try.func20, Try.ntmps20
  go_wp2_with (first
    | (go_at_call 19
       refine (pright_yes 23 at_ n v an orr bl wl ra rn co ob BA WA bc wc _ HW.out HRt.out).mono ?_
       rintro e w4 ⟨rfl, hb4⟩
       have HB4 : Hid (Below w.heap.size w w4) := ((Below.refl _ _).alloc (Nat.le_refl _) _).trans (hb4.mono (by simp))
       have hk4 : Below (w.heap.size + 1) (w.alloc (.cells #[.int .i64 23, .int .i64 at_, .int .i64 n, .int .u16 v, .int .u16 an, .int .u16 orr, .slice BA bl bc, .slice WA wl wc, .int .i64 ra, .int .i64 rn, .int .i64 co, .int .i64 ob] 30)) w4 := by
         rwa [show (w.alloc (.cells #[.int .i64 23, .int .i64 at_, .int .i64 n, .int .u16 v, .int .u16 an, .int .u16 orr, .slice BA bl bc, .slice WA wl wc, .int .i64 ra, .int .i64 rn, .int .i64 co, .int .i64 ob] 30)).heap.size = w.heap.size + 1 by simp] at hb4
       obtain ⟨hc0, hc1, hc2, hc3, hc4, hc5, hc6, hc7, hc8, hc9, hc10, hc11⟩ := box12 _ _ _ _ _ _ _ _ _ _ _ _ _ w w4 hk4
       have HK4 := Lib.hid hk4
       clear hb4 hk4 hc3 hc4 hc5 hc6 hc7 hc10 hc11)
    | (go_at_call 40; refine (ptable_lit 23 _ _ _ HT1.out HT2.out).mono ?_; rintro e w' ⟨rfl, rfl⟩)
    | (go_at_call 41
       (with_reducible refine (one_any 2 ra rn _ _ (by omega) (by omega) (by omega) (by omega) rfl).mono ?_)
       rintro e w5 ⟨g5, c5, rfl, ho5, hb5⟩
       have HO5 := Lib.hid ho5
       have HB5 : Hid (Below w.heap.size w w5) := HB4.out.trans (hb5.mono HB4.out.size)
       have HC5 := Lib.hid hb5
       have hk5 : Below (w.heap.size + 1) (w.alloc (.cells #[.int .i64 23, .int .i64 at_, .int .i64 n, .int .u16 v, .int .u16 an, .int .u16 orr, .slice BA bl bc, .slice WA wl wc, .int .i64 ra, .int .i64 rn, .int .i64 co, .int .i64 ob] 30)) w5 := HK4.out.trans (hb5.mono (by have := HK4.out.size; simp at this; omega))
       obtain ⟨hd0, hd1, hd2, hd3, hd4, hd5, hd6, hd7, hd8, hd9, hd10, hd11⟩ := box12 _ _ _ _ _ _ _ _ _ _ _ _ _ w w5 hk5
       clear hk5 hd3 hd4 hd5 hd6 hd7 hd8 hd9 hd10 hd11
       clear ho5 hb5)
    | (go_at_call 41
       (with_reducible refine (one_any 2 at_ n _ _ (by omega) (by omega) (by omega) (by omega) rfl).mono ?_)
       rintro e w6 ⟨g6, c6, rfl, ho6, hb6⟩
       have HO6 := Lib.hid ho6
       have HB6 : Hid (Below w.heap.size w w6) := HB5.out.trans (hb6.mono HB5.out.size)
       have HC6 := Lib.hid hb6
       clear ho6 hb6))
  go_ret2
  exact ⟨_, _, _, _, _, _, rfl, HO5.out.below HC6.out, HO6.out, HB6.out⟩

set_option maxHeartbeats 1000000 in
theorem pspans_43 (at_ n v an orr : Int) (bl wl : Nat) (ra rn co ob : Int) (BA WA : Option Addr) (bc wc : Nat) (w : World) (hw : Wide at_ n v an orr ra rn co ob) (hrt : rightP 43 at_ n v an orr bl wl ra rn co ob) :
    Calls Try.prog 20 #[.agg #[.int .i64 43, .int .i64 at_, .int .i64 n, .int .u16 v, .int .u16 an, .int .u16 orr, .slice BA bl bc, .slice WA wl wc, .int .i64 ra, .int .i64 rn, .int .i64 co, .int .i64 ob]] w fun e w' => ∃ R nr rc S ns sc, e = .returned (.tuple #[.slice R nr rc, .slice S ns sc]) ∧ OneRow w' R nr (spR 43 at_ n ra rn) ∧ OneRow w' S ns (spW 43 at_ n) ∧ Below w.heap.size w w' := by
  have hrt0 := hrt
  obtain ⟨_, hpl, ⟨a0, a1⟩, ⟨r0, r1⟩, hfit⟩ := hrt0
  unfold plainP at hpl
  unfold fitsP at hfit
  have hm1 : kMostR 43 ≤ 2000 := by decide
  have hm2 : kMostW 43 ≤ 2000 := by decide
  have n0 : 0 ≤ n := by omega
  have n1 : n ≤ 2000 := by omega
  have q0 : 0 ≤ rn := by omega
  have q1 : rn ≤ 2000 := by omega
  clear hpl hfit hm1 hm2
  have HRt := Lib.hid hrt
  have HW := Lib.hid hw
  clear hrt hw
  have HT1 : Hid (kTab 43 = 0) := rfl
  have HT2 : Hid (kHas 43 = false) := rfl
  go_enter Try.func20, Try.ntmps20
  go_wp2_with (first
    | (go_at_call 19
       refine (pright_yes 43 at_ n v an orr bl wl ra rn co ob BA WA bc wc _ HW.out HRt.out).mono ?_
       rintro e w4 ⟨rfl, hb4⟩
       have HB4 : Hid (Below w.heap.size w w4) := ((Below.refl _ _).alloc (Nat.le_refl _) _).trans (hb4.mono (by simp))
       have hk4 : Below (w.heap.size + 1) (w.alloc (.cells #[.int .i64 43, .int .i64 at_, .int .i64 n, .int .u16 v, .int .u16 an, .int .u16 orr, .slice BA bl bc, .slice WA wl wc, .int .i64 ra, .int .i64 rn, .int .i64 co, .int .i64 ob] 30)) w4 := by
         rwa [show (w.alloc (.cells #[.int .i64 43, .int .i64 at_, .int .i64 n, .int .u16 v, .int .u16 an, .int .u16 orr, .slice BA bl bc, .slice WA wl wc, .int .i64 ra, .int .i64 rn, .int .i64 co, .int .i64 ob] 30)).heap.size = w.heap.size + 1 by simp] at hb4
       obtain ⟨hc0, hc1, hc2, hc3, hc4, hc5, hc6, hc7, hc8, hc9, hc10, hc11⟩ := box12 _ _ _ _ _ _ _ _ _ _ _ _ _ w w4 hk4
       have HK4 := Lib.hid hk4
       clear hb4 hk4 hc3 hc4 hc5 hc6 hc7 hc10 hc11)
    | (go_at_call 40; refine (ptable_lit 43 _ _ _ HT1.out HT2.out).mono ?_; rintro e w' ⟨rfl, rfl⟩))
  go_ret2
  exact ⟨_, _, _, _, _, _, rfl, (rfl : (0 : Nat) = 0), (rfl : (0 : Nat) = 0), HB4.out⟩

theorem pspans_yes (fn at_ n v an orr : Int) (bl wl : Nat) (ra rn co ob : Int) (BA WA : Option Addr) (bc wc : Nat) (w : World) (hw : Wide at_ n v an orr ra rn co ob) (hrt : rightP fn at_ n v an orr bl wl ra rn co ob) :
    Calls Try.prog 20 #[.agg #[.int .i64 fn, .int .i64 at_, .int .i64 n, .int .u16 v, .int .u16 an, .int .u16 orr, .slice BA bl bc, .slice WA wl wc, .int .i64 ra, .int .i64 rn, .int .i64 co, .int .i64 ob]] w fun e w' => ∃ R nr rc S ns sc, e = .returned (.tuple #[.slice R nr rc, .slice S ns sc]) ∧ OneRow w' R nr (spR fn at_ n ra rn) ∧ OneRow w' S ns (spW fn at_ n) ∧ Below w.heap.size w w' := by
  rcases kinds fn with rfl | rfl | rfl | rfl | rfl | rfl | rfl | rfl | rfl | rfl | rfl | h
  · exact pspans_1 at_ n v an orr bl wl ra rn co ob BA WA bc wc w hw hrt
  · exact pspans_2 at_ n v an orr bl wl ra rn co ob BA WA bc wc w hw hrt
  · exact pspans_3 at_ n v an orr bl wl ra rn co ob BA WA bc wc w hw hrt
  · exact pspans_4 at_ n v an orr bl wl ra rn co ob BA WA bc wc w hw hrt
  · exact pspans_5 at_ n v an orr bl wl ra rn co ob BA WA bc wc w hw hrt
  · exact pspans_6 at_ n v an orr bl wl ra rn co ob BA WA bc wc w hw hrt
  · exact pspans_15 at_ n v an orr bl wl ra rn co ob BA WA bc wc w hw hrt
  · exact pspans_16 at_ n v an orr bl wl ra rn co ob BA WA bc wc w hw hrt
  · exact pspans_22 at_ n v an orr bl wl ra rn co ob BA WA bc wc w hw hrt
  · exact pspans_23 at_ n v an orr bl wl ra rn co ob BA WA bc wc w hw hrt
  · exact pspans_43 at_ n v an orr bl wl ra rn co ob BA WA bc wc w hw hrt
  · have := hrt.1
    rw [h.known] at this
    cases this

end Go.Proofs.Ytebpilfogdenjaa

/- Package tell: Echo. -/
import Derived.Test.YtijfeffjjcbijaaPTell4
import Derived.Test.YtijfeffjjcbijaaPBox14
namespace Go.Proofs.Ytijfeffjjcbijaa
open Go.ChangeShapes Go.WideShapes Go.ChangeAt Go.RowKit
set_option linter.unusedVariables false
set_option linter.unusedSimpArgs false

theorem or4 (ra rn co ob : Int) (r0 : -9223372036854775808 ≤ ra) (r1 : ra ≤ 9223372036854775807) (m0 : -9223372036854775808 ≤ rn) (m1 : rn ≤ 9223372036854775807) (c0 : -9223372036854775808 ≤ co) (c1 : co ≤ 9223372036854775807) (b0 : -9223372036854775808 ≤ ob) (b1 : ob ≤ 9223372036854775807) :
    bits .or .i64 (bits .or .i64 (bits .or .i64 ra rn) co) ob = 0 ↔ ra = 0 ∧ rn = 0 ∧ co = 0 ∧ ob = 0 := by
  rw [or64_zero _ ob (or64_bounds _ _).1 (or64_bounds _ _).2 b0 b1, or64_zero _ co (or64_bounds _ _).1 (or64_bounds _ _).2 c0 c1, or64_zero _ rn r0 r1 m0 m1]
  simp only [and_assoc]

/-- What a reply that confirms does not repeat is as it must be. -/
def spentP (fn n : Int) (bl wl : Nat) (ra rn co ob : Int) : Prop :=
  ((fn = 15 ∧ (bl : Int) = n) ∨ (fn ≠ 15 ∧ bl = 0)) ∧ ((fn = 16 ∧ (wl : Int) = n) ∨ (fn ≠ 16 ∧ wl = 0)) ∧ ra = 0 ∧ rn = 0 ∧ co = 0 ∧ ob = 0
instance (fn n : Int) (bl wl : Nat) (ra rn co ob : Int) : Decidable (spentP fn n bl wl ra rn co ob) := by unfold spentP; infer_instance

set_option maxRecDepth 100000 in
set_option maxHeartbeats 1000000 in
theorem pspent_lit (fn at_ n v an orr : Int) (bl wl : Nat) (ra rn co ob : Int) (BA WA : Option Addr) (bc wc : Nat) (w : World) (b : Bool) (hw : Wide at_ n v an orr ra rn co ob) (hb : decide (spentP fn n bl wl ra rn co ob) = b) :
    Calls Try.prog 94 #[.agg #[.int .i64 fn, .int .i64 at_, .int .i64 n, .int .u16 v, .int .u16 an, .int .u16 orr, .slice BA bl bc, .slice WA wl wc, .int .i64 ra, .int .i64 rn, .int .i64 co, .int .i64 ob]] w fun e w' => e = .returned (.bool b) ∧ Below w.heap.size w w' := by
  have HB := Lib.hid hb
  have HW := Lib.hid hw
  clear hb hw
  have H4 := Lib.hid (or4 ra rn co ob HW.out.r0 HW.out.r1 HW.out.m0 HW.out.m1 HW.out.c0 HW.out.c1 HW.out.b0 HW.out.b1)
  by_cases h15 : fn = 15
  · subst h15
    go_enter Try.func94, Try.ntmps94
    go_wp2
    all_goals
      go_ret
      refine ⟨ret_bool ?_, (Below.refl _ _).alloc (Nat.le_refl _) _⟩
      rw [← HB.out]
      first
        | exact (decide_eq_false (by unfold spentP; omega)).symm
        | (rw [Bool.eq_iff_iff]; simp only [decide_eq_true_eq, beq_iff_eq, Bool.and_eq_true]; rw [H4.out]; unfold spentP; omega)
  by_cases h16 : fn = 16
  · subst h16
    go_enter Try.func94, Try.ntmps94
    go_wp2
    all_goals
      go_ret
      refine ⟨ret_bool ?_, (Below.refl _ _).alloc (Nat.le_refl _) _⟩
      rw [← HB.out]
      first
        | exact (decide_eq_false (by unfold spentP; omega)).symm
        | (rw [Bool.eq_iff_iff]; simp only [decide_eq_true_eq, beq_iff_eq, Bool.and_eq_true]; rw [H4.out]; unfold spentP; omega)
  · go_enter Try.func94, Try.ntmps94
    go_wp2
    all_goals
      go_ret
      refine ⟨ret_bool ?_, (Below.refl _ _).alloc (Nat.le_refl _) _⟩
      rw [← HB.out]
      first
        | exact (decide_eq_false (by unfold spentP; omega)).symm
        | (rw [Bool.eq_iff_iff]; simp only [decide_eq_true_eq, beq_iff_eq, Bool.and_eq_true]; rw [H4.out]; unfold spentP; omega)

set_option maxHeartbeats 4000000 in
/-- A request that writes, and is right, is confirmed by just such a reply. -/
theorem echo_right (fn at_ n v an orr : Int) (bl wl : Nat) (ra rn co ob : Int) : (tellP fn 0 0 0 at_ n v an orr 0 0 0 0 0 1 ∧ spentP fn n bl wl ra rn co ob) ↔ (rightP fn at_ n v an orr bl wl ra rn co ob ∧ (fn = 5 ∨ fn = 6 ∨ fn = 15 ∨ fn = 16 ∨ fn = 22)) := by
  rw [tell_nought]
  unfold rightP
  rcases kinds fn with rfl | rfl | rfl | rfl | rfl | rfl | rfl | rfl | rfl | rfl | rfl | h
  case inr.inr.inr.inr.inr.inr.inr.inr.inr.inr.inr =>
    rw [h.known]
    simp
  all_goals
    have hk1 : kMostW 15 = 1968 := rfl
    have hk2 : kMostW 16 = 123 := rfl
    unfold rangT restT spentP plainP fitsP
    constructor
    · rintro ⟨⟨hk, h1, h2, h3⟩, h4⟩
      refine ⟨⟨hk, ?_, ?_, ?_, ?_⟩, ?_⟩ <;> omega
    · rintro ⟨⟨hk, h1, h2, h3, h4⟩, h5⟩
      refine ⟨⟨hk, ?_, ?_, ?_⟩, ?_⟩ <;> omega
theorem fits_none (w : World) : Fits w none 0 0 true := fits_nil w none 0

theorem cells12e {w : World} {g : Nat} {T : TypeId} {a0 a1 a2 a3 a4 a5 a6 a7 a8 a9 a10 a11 : Value} (h : WholeV w g T [a0, a1, a2, a3, a4, a5, a6, a7, a8, a9, a10, a11]) :
    w.cell? ⟨g, 0, none⟩ = some a0 ∧ w.cell? ⟨g, 1, none⟩ = some a1 ∧ w.cell? ⟨g, 2, none⟩ = some a2 ∧ w.cell? ⟨g, 3, none⟩ = some a3 ∧ w.cell? ⟨g, 4, none⟩ = some a4 ∧ w.cell? ⟨g, 5, none⟩ = some a5 ∧
    w.cell? ⟨g, 6, none⟩ = some a6 ∧ w.cell? ⟨g, 7, none⟩ = some a7 ∧ w.cell? ⟨g, 8, none⟩ = some a8 ∧ w.cell? ⟨g, 9, none⟩ = some a9 ∧ w.cell? ⟨g, 10, none⟩ = some a10 ∧ w.cell? ⟨g, 11, none⟩ = some a11 :=
  ⟨h.cell 0, h.cell 1, h.cell 2, h.cell 3, h.cell 4, h.cell 5, h.cell 6, h.cell 7, h.cell 8, h.cell 9, h.cell 10, h.cell 11⟩

set_option maxRecDepth 100000 in
set_option maxHeartbeats 1000000 in
theorem pecho_yes (fn at_ n v an orr : Int) (bl wl : Nat) (ra rn co ob : Int) (BA WA : Option Addr) (bc wc : Nat) (w : World) (hw : Wide at_ n v an orr ra rn co ob) (h1 : tellP fn 0 0 0 at_ n v an orr 0 0 0 0 0 1) (h2 : spentP fn n bl wl ra rn co ob) :
    Calls Try.prog 50 #[.agg #[.int .i64 fn, .int .i64 at_, .int .i64 n, .int .u16 v, .int .u16 an, .int .u16 orr, .slice BA bl bc, .slice WA wl wc, .int .i64 ra, .int .i64 rn, .int .i64 co, .int .i64 ob]] w fun e w' => e = .returned (.agg #[.int .i64 fn, .int .i64 0, .slice none 0 0, .slice none 0 0, .int .i64 at_, .int .i64 n, .int .u16 v, .int .u16 an, .int .u16 orr, .int .i64 0, .int .i64 0, .bool false, .int .i64 0, .slice none 0 0]) ∧ Below w.heap.size w w' := by
  have HW := Lib.hid hw
  have HT : Hid (WideT at_ n v an orr 0 0 0) := ⟨HW.out.a0, HW.out.a1, HW.out.n0, HW.out.n1, HW.out.v0, HW.out.v1, HW.out.x0, HW.out.x1, HW.out.o0, HW.out.o1, by omega, by omega, by omega, by omega, by omega, by omega⟩
  have H1 := Lib.hid (decide_eq_true h1)
  have H2 := Lib.hid (decide_eq_true h2)
  clear h1 h2
  clear hw
  have hkw : Below w.heap.size w (((w.alloc (.cells #[.int .i64 fn, .int .i64 at_, .int .i64 n, .int .u16 v, .int .u16 an, .int .u16 orr, .slice BA bl bc, .slice WA wl wc, .int .i64 ra, .int .i64 rn, .int .i64 co, .int .i64 ob] 26)).alloc (.cells #[.int .i64 0, .int .i64 0, .slice none 0 0, .slice none 0 0, .int .i64 0, .int .i64 0, .int .u16 0, .int .u16 0, .int .u16 0, .int .i64 0, .int .i64 0, .bool false, .int .i64 0, .slice none 0 0] 64)).alloc (.cells #[.int .i64 fn, .int .i64 0, .slice none 0 0, .slice none 0 0, .int .i64 at_, .int .i64 n, .int .u16 v, .int .u16 an, .int .u16 orr, .int .i64 0, .int .i64 0, .bool false, .int .i64 0, .slice none 0 0] 64)) := (((Below.refl _ _).alloc (Nat.le_refl _) _).alloc (by simp) _).alloc (by simp; omega) _
  have hR : WholeV (((w.alloc (.cells #[.int .i64 fn, .int .i64 at_, .int .i64 n, .int .u16 v, .int .u16 an, .int .u16 orr, .slice BA bl bc, .slice WA wl wc, .int .i64 ra, .int .i64 rn, .int .i64 co, .int .i64 ob] 26)).alloc (.cells #[.int .i64 0, .int .i64 0, .slice none 0 0, .slice none 0 0, .int .i64 0, .int .i64 0, .int .u16 0, .int .u16 0, .int .u16 0, .int .i64 0, .int .i64 0, .bool false, .int .i64 0, .slice none 0 0] 64)).alloc (.cells #[.int .i64 fn, .int .i64 0, .slice none 0 0, .slice none 0 0, .int .i64 at_, .int .i64 n, .int .u16 v, .int .u16 an, .int .u16 orr, .int .i64 0, .int .i64 0, .bool false, .int .i64 0, .slice none 0 0] 64)) (w.heap.size + 1) 64 [.int .i64 0, .int .i64 0, .slice none 0 0, .slice none 0 0, .int .i64 0, .int .i64 0, .int .u16 0, .int .u16 0, .int .u16 0, .int .i64 0, .int .i64 0, .bool false, .int .i64 0, .slice none 0 0] := by
    have h := heap_alloc_new (w.alloc (.cells #[.int .i64 fn, .int .i64 at_, .int .i64 n, .int .u16 v, .int .u16 an, .int .u16 orr, .slice BA bl bc, .slice WA wl wc, .int .i64 ra, .int .i64 rn, .int .i64 co, .int .i64 ob] 26)) (.cells #[.int .i64 0, .int .i64 0, .slice none 0 0, .slice none 0 0, .int .i64 0, .int .i64 0, .int .u16 0, .int .u16 0, .int .u16 0, .int .i64 0, .int .i64 0, .bool false, .int .i64 0, .slice none 0 0] 64)
    rw [show (w.alloc (.cells #[.int .i64 fn, .int .i64 at_, .int .i64 n, .int .u16 v, .int .u16 an, .int .u16 orr, .slice BA bl bc, .slice WA wl wc, .int .i64 ra, .int .i64 rn, .int .i64 co, .int .i64 ob] 26)).heap.size = w.heap.size + 1 by simp] at h
    exact WholeV.below h ((Below.refl _ _).alloc (Nat.le_refl _) _) (by simp)
  have hT : WholeV (((w.alloc (.cells #[.int .i64 fn, .int .i64 at_, .int .i64 n, .int .u16 v, .int .u16 an, .int .u16 orr, .slice BA bl bc, .slice WA wl wc, .int .i64 ra, .int .i64 rn, .int .i64 co, .int .i64 ob] 26)).alloc (.cells #[.int .i64 0, .int .i64 0, .slice none 0 0, .slice none 0 0, .int .i64 0, .int .i64 0, .int .u16 0, .int .u16 0, .int .u16 0, .int .i64 0, .int .i64 0, .bool false, .int .i64 0, .slice none 0 0] 64)).alloc (.cells #[.int .i64 fn, .int .i64 0, .slice none 0 0, .slice none 0 0, .int .i64 at_, .int .i64 n, .int .u16 v, .int .u16 an, .int .u16 orr, .int .i64 0, .int .i64 0, .bool false, .int .i64 0, .slice none 0 0] 64)) (w.heap.size + 2) 64 [.int .i64 fn, .int .i64 0, .slice none 0 0, .slice none 0 0, .int .i64 at_, .int .i64 n, .int .u16 v, .int .u16 an, .int .u16 orr, .int .i64 0, .int .i64 0, .bool false, .int .i64 0, .slice none 0 0] := by
    have h := heap_alloc_new ((w.alloc (.cells #[.int .i64 fn, .int .i64 at_, .int .i64 n, .int .u16 v, .int .u16 an, .int .u16 orr, .slice BA bl bc, .slice WA wl wc, .int .i64 ra, .int .i64 rn, .int .i64 co, .int .i64 ob] 26)).alloc (.cells #[.int .i64 0, .int .i64 0, .slice none 0 0, .slice none 0 0, .int .i64 0, .int .i64 0, .int .u16 0, .int .u16 0, .int .u16 0, .int .i64 0, .int .i64 0, .bool false, .int .i64 0, .slice none 0 0] 64)) (.cells #[.int .i64 fn, .int .i64 0, .slice none 0 0, .slice none 0 0, .int .i64 at_, .int .i64 n, .int .u16 v, .int .u16 an, .int .u16 orr, .int .i64 0, .int .i64 0, .bool false, .int .i64 0, .slice none 0 0] 64)
    rwa [show ((w.alloc (.cells #[.int .i64 fn, .int .i64 at_, .int .i64 n, .int .u16 v, .int .u16 an, .int .u16 orr, .slice BA bl bc, .slice WA wl wc, .int .i64 ra, .int .i64 rn, .int .i64 co, .int .i64 ob] 26)).alloc (.cells #[.int .i64 0, .int .i64 0, .slice none 0 0, .slice none 0 0, .int .i64 0, .int .i64 0, .int .u16 0, .int .u16 0, .int .u16 0, .int .i64 0, .int .i64 0, .bool false, .int .i64 0, .slice none 0 0] 64)).heap.size = w.heap.size + 2 by simp] at h
  have hA : WholeV (((w.alloc (.cells #[.int .i64 fn, .int .i64 at_, .int .i64 n, .int .u16 v, .int .u16 an, .int .u16 orr, .slice BA bl bc, .slice WA wl wc, .int .i64 ra, .int .i64 rn, .int .i64 co, .int .i64 ob] 26)).alloc (.cells #[.int .i64 0, .int .i64 0, .slice none 0 0, .slice none 0 0, .int .i64 0, .int .i64 0, .int .u16 0, .int .u16 0, .int .u16 0, .int .i64 0, .int .i64 0, .bool false, .int .i64 0, .slice none 0 0] 64)).alloc (.cells #[.int .i64 fn, .int .i64 0, .slice none 0 0, .slice none 0 0, .int .i64 at_, .int .i64 n, .int .u16 v, .int .u16 an, .int .u16 orr, .int .i64 0, .int .i64 0, .bool false, .int .i64 0, .slice none 0 0] 64)) w.heap.size 26 [.int .i64 fn, .int .i64 at_, .int .i64 n, .int .u16 v, .int .u16 an, .int .u16 orr, .slice BA bl bc, .slice WA wl wc, .int .i64 ra, .int .i64 rn, .int .i64 co, .int .i64 ob] := by
    have h : WholeV (w.alloc (.cells #[.int .i64 fn, .int .i64 at_, .int .i64 n, .int .u16 v, .int .u16 an, .int .u16 orr, .slice BA bl bc, .slice WA wl wc, .int .i64 ra, .int .i64 rn, .int .i64 co, .int .i64 ob] 26)) w.heap.size 26 [.int .i64 fn, .int .i64 at_, .int .i64 n, .int .u16 v, .int .u16 an, .int .u16 orr, .slice BA bl bc, .slice WA wl wc, .int .i64 ra, .int .i64 rn, .int .i64 co, .int .i64 ob] := heap_alloc_new w _
    exact (h.below ((Below.refl _ _).alloc (Nat.le_refl _) _) (by simp)).below ((Below.refl _ _).alloc (Nat.le_refl _) _) (by simp; omega)
  have HKW := Lib.hid hkw
  have HR := Lib.hid hR
  have HTb := Lib.hid hT
  have HA := Lib.hid hA
  clear hkw hR hT hA
  go_enter Try.func50, Try.ntmps50
  go_wp2_with fail
  refine (ptr_any fn 0 0 0 at_ n v an orr 0 0 false 0 0 none none none 0 0 0 _ true true HT.out (fits_nil _ _ _) H1.out).mono ?_
  rintro e w1 ⟨rfl, hb1⟩
  have h1 := HR.out.below hb1 HR.out.lt
  have h2 := HTb.out.below hb1 HTb.out.lt
  have h3 := HA.out.below hb1 HA.out.lt
  have hy1 : w.heap.size + 2 < w1.heap.size := h2.lt
  obtain ⟨ta0, ta1, ta2, ta3, ta4, ta5, ta6, ta7, ta8, ta9, ta10, ta11, ta12, ta13⟩ := cells14 h2
  obtain ⟨aa0, aa1, aa2, aa3, aa4, aa5, aa6, aa7, aa8, aa9, aa10, aa11⟩ := cells12e h3
  obtain ⟨ra_0, ra_1, ra_2, ra_3, ra_4, ra_5, ra_6, ra_7, ra_8, ra_9, ra_10, ra_11, ra_12, ra_13⟩ := cells14 h1
  have fa0 := h1.frozen 0
  have fa1 := h1.frozen 1
  have fa2 := h1.frozen 2
  have fa3 := h1.frozen 3
  have fa4 := h1.frozen 4
  have fa5 := h1.frozen 5
  have fa6 := h1.frozen 6
  have fa7 := h1.frozen 7
  have fa8 := h1.frozen 8
  have fa9 := h1.frozen 9
  have fa10 := h1.frozen 10
  have fa11 := h1.frozen 11
  have fa12 := h1.frozen 12
  have fa13 := h1.frozen 13
  have HB1 := Lib.hid (HKW.out.trans (hb1.mono HKW.out.size))
  have HR1 := Lib.hid h1
  have HT1 := Lib.hid h2
  clear hb1 h1 h2 h3
  go_wp2_with fail
  refine (pspent_lit fn at_ n v an orr bl wl ra rn co ob BA WA bc wc _ true HW.out H2.out).mono ?_
  rintro e w2 ⟨rfl, hb2⟩
  have h1 := HR1.out.below hb2 HR1.out.lt
  have h2 := HT1.out.below hb2 HT1.out.lt
  have hy2 : w.heap.size + 2 < w2.heap.size := h2.lt
  obtain ⟨tb0, tb1, tb2, tb3, tb4, tb5, tb6, tb7, tb8, tb9, tb10, tb11, tb12, tb13⟩ := cells14 h2
  obtain ⟨rb0, rb1, rb2, rb3, rb4, rb5, rb6, rb7, rb8, rb9, rb10, rb11, rb12, rb13⟩ := cells14 h1
  have fb0 := h1.frozen 0
  have fb1 := h1.frozen 1
  have fb2 := h1.frozen 2
  have fb3 := h1.frozen 3
  have fb4 := h1.frozen 4
  have fb5 := h1.frozen 5
  have fb6 := h1.frozen 6
  have fb7 := h1.frozen 7
  have fb8 := h1.frozen 8
  have fb9 := h1.frozen 9
  have fb10 := h1.frozen 10
  have fb11 := h1.frozen 11
  have fb12 := h1.frozen 12
  have fb13 := h1.frozen 13
  have HB2 := Lib.hid (HB1.out.trans (hb2.mono HB1.out.size))
  have HR2 := Lib.hid h1
  clear hb2 h1 h2
  go_wp2_with fail
  obtain ⟨w9, hw9⟩ : ∃ w9, ((((((((((((((w2.setCell ⟨w.heap.size + 1, 0, none⟩ (.int .i64 fn)).setCell ⟨w.heap.size + 1, 1, none⟩ (.int .i64 0)).setCell ⟨w.heap.size + 1, 2, none⟩ (.slice none 0 0)).setCell ⟨w.heap.size + 1, 3, none⟩ (.slice none 0 0)).setCell ⟨w.heap.size + 1, 4, none⟩ (.int .i64 at_)).setCell ⟨w.heap.size + 1, 5, none⟩ (.int .i64 n)).setCell ⟨w.heap.size + 1, 6, none⟩ (.int .u16 v)).setCell ⟨w.heap.size + 1, 7, none⟩ (.int .u16 an)).setCell ⟨w.heap.size + 1, 8, none⟩ (.int .u16 orr)).setCell ⟨w.heap.size + 1, 9, none⟩ (.int .i64 0)).setCell ⟨w.heap.size + 1, 10, none⟩ (.int .i64 0)).setCell ⟨w.heap.size + 1, 11, none⟩ (.bool false)).setCell ⟨w.heap.size + 1, 12, none⟩ (.int .i64 0)).setCell ⟨w.heap.size + 1, 13, none⟩ (.slice none 0 0)) = w9 := ⟨_, rfl⟩
  have hwh := all14 HR2.out (.int .i64 fn) (.int .i64 0) (.slice none 0 0) (.slice none 0 0) (.int .i64 at_) (.int .i64 n) (.int .u16 v) (.int .u16 an) (.int .u16 orr) (.int .i64 0) (.int .i64 0) (.bool false) (.int .i64 0) (.slice none 0 0) rfl
  rw [hw9] at hwh
  have hbb : Below w.heap.size w w9 := by
    rw [← hw9]
    exact ((((((((((((((HB2.out.setCell (p := ⟨w.heap.size + 1, 0, none⟩) (Nat.le_succ _) _).setCell (p := ⟨w.heap.size + 1, 1, none⟩) (Nat.le_succ _) _).setCell (p := ⟨w.heap.size + 1, 2, none⟩) (Nat.le_succ _) _).setCell (p := ⟨w.heap.size + 1, 3, none⟩) (Nat.le_succ _) _).setCell (p := ⟨w.heap.size + 1, 4, none⟩) (Nat.le_succ _) _).setCell (p := ⟨w.heap.size + 1, 5, none⟩) (Nat.le_succ _) _).setCell (p := ⟨w.heap.size + 1, 6, none⟩) (Nat.le_succ _) _).setCell (p := ⟨w.heap.size + 1, 7, none⟩) (Nat.le_succ _) _).setCell (p := ⟨w.heap.size + 1, 8, none⟩) (Nat.le_succ _) _).setCell (p := ⟨w.heap.size + 1, 9, none⟩) (Nat.le_succ _) _).setCell (p := ⟨w.heap.size + 1, 10, none⟩) (Nat.le_succ _) _).setCell (p := ⟨w.heap.size + 1, 11, none⟩) (Nat.le_succ _) _).setCell (p := ⟨w.heap.size + 1, 12, none⟩) (Nat.le_succ _) _).setCell (p := ⟨w.heap.size + 1, 13, none⟩) (Nat.le_succ _) _)
  rw [hw9]
  obtain ⟨he0, he1, he2, he3, he4, he5, he6, he7, he8, he9, he10, he11, he12, he13⟩ := cells14 hwh
  exact bodyPost_ret (v := .agg #[.int .i64 fn, .int .i64 0, .slice none 0 0, .slice none 0 0, .int .i64 at_, .int .i64 n, .int .u16 v, .int .u16 an, .int .u16 orr, .int .i64 0, .int .i64 0, .bool false, .int .i64 0, .slice none 0 0]) (by simp [results, Try.results50, go_sem, he0, he1, he2, he3, he4, he5, he6, he7, he8, he9, he10, he11, he12, he13]) rfl ⟨rfl, hbb⟩

set_option maxRecDepth 100000 in
set_option maxHeartbeats 1000000 in
theorem pecho_bad (fn at_ n v an orr : Int) (bl wl : Nat) (ra rn co ob : Int) (BA WA : Option Addr) (bc wc : Nat) (w : World) (hw : Wide at_ n v an orr ra rn co ob) (h1 : ¬ tellP fn 0 0 0 at_ n v an orr 0 0 0 0 0 1) :
    Calls Try.prog 50 #[.agg #[.int .i64 fn, .int .i64 at_, .int .i64 n, .int .u16 v, .int .u16 an, .int .u16 orr, .slice BA bl bc, .slice WA wl wc, .int .i64 ra, .int .i64 rn, .int .i64 co, .int .i64 ob]] w fun e w' => e = .returned (.agg #[.int .i64 0, .int .i64 0, .slice none 0 0, .slice none 0 0, .int .i64 0, .int .i64 0, .int .u16 0, .int .u16 0, .int .u16 0, .int .i64 0, .int .i64 0, .bool false, .int .i64 0, .slice none 0 0]) ∧ Below w.heap.size w w' := by
  have HW := Lib.hid hw
  have HT : Hid (WideT at_ n v an orr 0 0 0) := ⟨HW.out.a0, HW.out.a1, HW.out.n0, HW.out.n1, HW.out.v0, HW.out.v1, HW.out.x0, HW.out.x1, HW.out.o0, HW.out.o1, by omega, by omega, by omega, by omega, by omega, by omega⟩
  have H1 := Lib.hid (decide_eq_false h1)
  clear h1
  clear hw
  have hkw : Below w.heap.size w (((w.alloc (.cells #[.int .i64 fn, .int .i64 at_, .int .i64 n, .int .u16 v, .int .u16 an, .int .u16 orr, .slice BA bl bc, .slice WA wl wc, .int .i64 ra, .int .i64 rn, .int .i64 co, .int .i64 ob] 26)).alloc (.cells #[.int .i64 0, .int .i64 0, .slice none 0 0, .slice none 0 0, .int .i64 0, .int .i64 0, .int .u16 0, .int .u16 0, .int .u16 0, .int .i64 0, .int .i64 0, .bool false, .int .i64 0, .slice none 0 0] 64)).alloc (.cells #[.int .i64 fn, .int .i64 0, .slice none 0 0, .slice none 0 0, .int .i64 at_, .int .i64 n, .int .u16 v, .int .u16 an, .int .u16 orr, .int .i64 0, .int .i64 0, .bool false, .int .i64 0, .slice none 0 0] 64)) := (((Below.refl _ _).alloc (Nat.le_refl _) _).alloc (by simp) _).alloc (by simp; omega) _
  have hR : WholeV (((w.alloc (.cells #[.int .i64 fn, .int .i64 at_, .int .i64 n, .int .u16 v, .int .u16 an, .int .u16 orr, .slice BA bl bc, .slice WA wl wc, .int .i64 ra, .int .i64 rn, .int .i64 co, .int .i64 ob] 26)).alloc (.cells #[.int .i64 0, .int .i64 0, .slice none 0 0, .slice none 0 0, .int .i64 0, .int .i64 0, .int .u16 0, .int .u16 0, .int .u16 0, .int .i64 0, .int .i64 0, .bool false, .int .i64 0, .slice none 0 0] 64)).alloc (.cells #[.int .i64 fn, .int .i64 0, .slice none 0 0, .slice none 0 0, .int .i64 at_, .int .i64 n, .int .u16 v, .int .u16 an, .int .u16 orr, .int .i64 0, .int .i64 0, .bool false, .int .i64 0, .slice none 0 0] 64)) (w.heap.size + 1) 64 [.int .i64 0, .int .i64 0, .slice none 0 0, .slice none 0 0, .int .i64 0, .int .i64 0, .int .u16 0, .int .u16 0, .int .u16 0, .int .i64 0, .int .i64 0, .bool false, .int .i64 0, .slice none 0 0] := by
    have h := heap_alloc_new (w.alloc (.cells #[.int .i64 fn, .int .i64 at_, .int .i64 n, .int .u16 v, .int .u16 an, .int .u16 orr, .slice BA bl bc, .slice WA wl wc, .int .i64 ra, .int .i64 rn, .int .i64 co, .int .i64 ob] 26)) (.cells #[.int .i64 0, .int .i64 0, .slice none 0 0, .slice none 0 0, .int .i64 0, .int .i64 0, .int .u16 0, .int .u16 0, .int .u16 0, .int .i64 0, .int .i64 0, .bool false, .int .i64 0, .slice none 0 0] 64)
    rw [show (w.alloc (.cells #[.int .i64 fn, .int .i64 at_, .int .i64 n, .int .u16 v, .int .u16 an, .int .u16 orr, .slice BA bl bc, .slice WA wl wc, .int .i64 ra, .int .i64 rn, .int .i64 co, .int .i64 ob] 26)).heap.size = w.heap.size + 1 by simp] at h
    exact WholeV.below h ((Below.refl _ _).alloc (Nat.le_refl _) _) (by simp)
  have hT : WholeV (((w.alloc (.cells #[.int .i64 fn, .int .i64 at_, .int .i64 n, .int .u16 v, .int .u16 an, .int .u16 orr, .slice BA bl bc, .slice WA wl wc, .int .i64 ra, .int .i64 rn, .int .i64 co, .int .i64 ob] 26)).alloc (.cells #[.int .i64 0, .int .i64 0, .slice none 0 0, .slice none 0 0, .int .i64 0, .int .i64 0, .int .u16 0, .int .u16 0, .int .u16 0, .int .i64 0, .int .i64 0, .bool false, .int .i64 0, .slice none 0 0] 64)).alloc (.cells #[.int .i64 fn, .int .i64 0, .slice none 0 0, .slice none 0 0, .int .i64 at_, .int .i64 n, .int .u16 v, .int .u16 an, .int .u16 orr, .int .i64 0, .int .i64 0, .bool false, .int .i64 0, .slice none 0 0] 64)) (w.heap.size + 2) 64 [.int .i64 fn, .int .i64 0, .slice none 0 0, .slice none 0 0, .int .i64 at_, .int .i64 n, .int .u16 v, .int .u16 an, .int .u16 orr, .int .i64 0, .int .i64 0, .bool false, .int .i64 0, .slice none 0 0] := by
    have h := heap_alloc_new ((w.alloc (.cells #[.int .i64 fn, .int .i64 at_, .int .i64 n, .int .u16 v, .int .u16 an, .int .u16 orr, .slice BA bl bc, .slice WA wl wc, .int .i64 ra, .int .i64 rn, .int .i64 co, .int .i64 ob] 26)).alloc (.cells #[.int .i64 0, .int .i64 0, .slice none 0 0, .slice none 0 0, .int .i64 0, .int .i64 0, .int .u16 0, .int .u16 0, .int .u16 0, .int .i64 0, .int .i64 0, .bool false, .int .i64 0, .slice none 0 0] 64)) (.cells #[.int .i64 fn, .int .i64 0, .slice none 0 0, .slice none 0 0, .int .i64 at_, .int .i64 n, .int .u16 v, .int .u16 an, .int .u16 orr, .int .i64 0, .int .i64 0, .bool false, .int .i64 0, .slice none 0 0] 64)
    rwa [show ((w.alloc (.cells #[.int .i64 fn, .int .i64 at_, .int .i64 n, .int .u16 v, .int .u16 an, .int .u16 orr, .slice BA bl bc, .slice WA wl wc, .int .i64 ra, .int .i64 rn, .int .i64 co, .int .i64 ob] 26)).alloc (.cells #[.int .i64 0, .int .i64 0, .slice none 0 0, .slice none 0 0, .int .i64 0, .int .i64 0, .int .u16 0, .int .u16 0, .int .u16 0, .int .i64 0, .int .i64 0, .bool false, .int .i64 0, .slice none 0 0] 64)).heap.size = w.heap.size + 2 by simp] at h
  have hA : WholeV (((w.alloc (.cells #[.int .i64 fn, .int .i64 at_, .int .i64 n, .int .u16 v, .int .u16 an, .int .u16 orr, .slice BA bl bc, .slice WA wl wc, .int .i64 ra, .int .i64 rn, .int .i64 co, .int .i64 ob] 26)).alloc (.cells #[.int .i64 0, .int .i64 0, .slice none 0 0, .slice none 0 0, .int .i64 0, .int .i64 0, .int .u16 0, .int .u16 0, .int .u16 0, .int .i64 0, .int .i64 0, .bool false, .int .i64 0, .slice none 0 0] 64)).alloc (.cells #[.int .i64 fn, .int .i64 0, .slice none 0 0, .slice none 0 0, .int .i64 at_, .int .i64 n, .int .u16 v, .int .u16 an, .int .u16 orr, .int .i64 0, .int .i64 0, .bool false, .int .i64 0, .slice none 0 0] 64)) w.heap.size 26 [.int .i64 fn, .int .i64 at_, .int .i64 n, .int .u16 v, .int .u16 an, .int .u16 orr, .slice BA bl bc, .slice WA wl wc, .int .i64 ra, .int .i64 rn, .int .i64 co, .int .i64 ob] := by
    have h : WholeV (w.alloc (.cells #[.int .i64 fn, .int .i64 at_, .int .i64 n, .int .u16 v, .int .u16 an, .int .u16 orr, .slice BA bl bc, .slice WA wl wc, .int .i64 ra, .int .i64 rn, .int .i64 co, .int .i64 ob] 26)) w.heap.size 26 [.int .i64 fn, .int .i64 at_, .int .i64 n, .int .u16 v, .int .u16 an, .int .u16 orr, .slice BA bl bc, .slice WA wl wc, .int .i64 ra, .int .i64 rn, .int .i64 co, .int .i64 ob] := heap_alloc_new w _
    exact (h.below ((Below.refl _ _).alloc (Nat.le_refl _) _) (by simp)).below ((Below.refl _ _).alloc (Nat.le_refl _) _) (by simp; omega)
  have HKW := Lib.hid hkw
  have HR := Lib.hid hR
  have HTb := Lib.hid hT
  have HA := Lib.hid hA
  clear hkw hR hT hA
  go_enter Try.func50, Try.ntmps50
  go_wp2_with fail
  refine (ptr_any fn 0 0 0 at_ n v an orr 0 0 false 0 0 none none none 0 0 0 _ true false HT.out (fits_nil _ _ _) H1.out).mono ?_
  rintro e w1 ⟨rfl, hb1⟩
  have h1 := HR.out.below hb1 HR.out.lt
  have h2 := HTb.out.below hb1 HTb.out.lt
  have h3 := HA.out.below hb1 HA.out.lt
  have hy1 : w.heap.size + 2 < w1.heap.size := h2.lt
  obtain ⟨ta0, ta1, ta2, ta3, ta4, ta5, ta6, ta7, ta8, ta9, ta10, ta11, ta12, ta13⟩ := cells14 h2
  obtain ⟨aa0, aa1, aa2, aa3, aa4, aa5, aa6, aa7, aa8, aa9, aa10, aa11⟩ := cells12e h3
  obtain ⟨ra_0, ra_1, ra_2, ra_3, ra_4, ra_5, ra_6, ra_7, ra_8, ra_9, ra_10, ra_11, ra_12, ra_13⟩ := cells14 h1
  have fa0 := h1.frozen 0
  have fa1 := h1.frozen 1
  have fa2 := h1.frozen 2
  have fa3 := h1.frozen 3
  have fa4 := h1.frozen 4
  have fa5 := h1.frozen 5
  have fa6 := h1.frozen 6
  have fa7 := h1.frozen 7
  have fa8 := h1.frozen 8
  have fa9 := h1.frozen 9
  have fa10 := h1.frozen 10
  have fa11 := h1.frozen 11
  have fa12 := h1.frozen 12
  have fa13 := h1.frozen 13
  have HB1 := Lib.hid (HKW.out.trans (hb1.mono HKW.out.size))
  have HR1 := Lib.hid h1
  have HT1 := Lib.hid h2
  clear hb1 h1 h2 h3
  go_wp2_with fail
  obtain ⟨w9, hw9⟩ : ∃ w9, ((((((((((((((w1.setCell ⟨w.heap.size + 1, 0, none⟩ (.int .i64 0)).setCell ⟨w.heap.size + 1, 1, none⟩ (.int .i64 0)).setCell ⟨w.heap.size + 1, 2, none⟩ (.slice none 0 0)).setCell ⟨w.heap.size + 1, 3, none⟩ (.slice none 0 0)).setCell ⟨w.heap.size + 1, 4, none⟩ (.int .i64 0)).setCell ⟨w.heap.size + 1, 5, none⟩ (.int .i64 0)).setCell ⟨w.heap.size + 1, 6, none⟩ (.int .u16 0)).setCell ⟨w.heap.size + 1, 7, none⟩ (.int .u16 0)).setCell ⟨w.heap.size + 1, 8, none⟩ (.int .u16 0)).setCell ⟨w.heap.size + 1, 9, none⟩ (.int .i64 0)).setCell ⟨w.heap.size + 1, 10, none⟩ (.int .i64 0)).setCell ⟨w.heap.size + 1, 11, none⟩ (.bool false)).setCell ⟨w.heap.size + 1, 12, none⟩ (.int .i64 0)).setCell ⟨w.heap.size + 1, 13, none⟩ (.slice none 0 0)) = w9 := ⟨_, rfl⟩
  have hwh := all14 HR1.out (.int .i64 0) (.int .i64 0) (.slice none 0 0) (.slice none 0 0) (.int .i64 0) (.int .i64 0) (.int .u16 0) (.int .u16 0) (.int .u16 0) (.int .i64 0) (.int .i64 0) (.bool false) (.int .i64 0) (.slice none 0 0) rfl
  rw [hw9] at hwh
  have hbb : Below w.heap.size w w9 := by
    rw [← hw9]
    exact ((((((((((((((HB1.out.setCell (p := ⟨w.heap.size + 1, 0, none⟩) (Nat.le_succ _) _).setCell (p := ⟨w.heap.size + 1, 1, none⟩) (Nat.le_succ _) _).setCell (p := ⟨w.heap.size + 1, 2, none⟩) (Nat.le_succ _) _).setCell (p := ⟨w.heap.size + 1, 3, none⟩) (Nat.le_succ _) _).setCell (p := ⟨w.heap.size + 1, 4, none⟩) (Nat.le_succ _) _).setCell (p := ⟨w.heap.size + 1, 5, none⟩) (Nat.le_succ _) _).setCell (p := ⟨w.heap.size + 1, 6, none⟩) (Nat.le_succ _) _).setCell (p := ⟨w.heap.size + 1, 7, none⟩) (Nat.le_succ _) _).setCell (p := ⟨w.heap.size + 1, 8, none⟩) (Nat.le_succ _) _).setCell (p := ⟨w.heap.size + 1, 9, none⟩) (Nat.le_succ _) _).setCell (p := ⟨w.heap.size + 1, 10, none⟩) (Nat.le_succ _) _).setCell (p := ⟨w.heap.size + 1, 11, none⟩) (Nat.le_succ _) _).setCell (p := ⟨w.heap.size + 1, 12, none⟩) (Nat.le_succ _) _).setCell (p := ⟨w.heap.size + 1, 13, none⟩) (Nat.le_succ _) _)
  rw [hw9]
  obtain ⟨he0, he1, he2, he3, he4, he5, he6, he7, he8, he9, he10, he11, he12, he13⟩ := cells14 hwh
  exact bodyPost_ret (v := .agg #[.int .i64 0, .int .i64 0, .slice none 0 0, .slice none 0 0, .int .i64 0, .int .i64 0, .int .u16 0, .int .u16 0, .int .u16 0, .int .i64 0, .int .i64 0, .bool false, .int .i64 0, .slice none 0 0]) (by simp [results, Try.results50, go_sem, he0, he1, he2, he3, he4, he5, he6, he7, he8, he9, he10, he11, he12, he13]) rfl ⟨rfl, hbb⟩

set_option maxRecDepth 100000 in
set_option maxHeartbeats 1000000 in
theorem pecho_not (fn at_ n v an orr : Int) (bl wl : Nat) (ra rn co ob : Int) (BA WA : Option Addr) (bc wc : Nat) (w : World) (hw : Wide at_ n v an orr ra rn co ob) (h1 : tellP fn 0 0 0 at_ n v an orr 0 0 0 0 0 1) (h2 : ¬ spentP fn n bl wl ra rn co ob) :
    Calls Try.prog 50 #[.agg #[.int .i64 fn, .int .i64 at_, .int .i64 n, .int .u16 v, .int .u16 an, .int .u16 orr, .slice BA bl bc, .slice WA wl wc, .int .i64 ra, .int .i64 rn, .int .i64 co, .int .i64 ob]] w fun e w' => e = .returned (.agg #[.int .i64 0, .int .i64 0, .slice none 0 0, .slice none 0 0, .int .i64 0, .int .i64 0, .int .u16 0, .int .u16 0, .int .u16 0, .int .i64 0, .int .i64 0, .bool false, .int .i64 0, .slice none 0 0]) ∧ Below w.heap.size w w' := by
  have HW := Lib.hid hw
  have HT : Hid (WideT at_ n v an orr 0 0 0) := ⟨HW.out.a0, HW.out.a1, HW.out.n0, HW.out.n1, HW.out.v0, HW.out.v1, HW.out.x0, HW.out.x1, HW.out.o0, HW.out.o1, by omega, by omega, by omega, by omega, by omega, by omega⟩
  have H1 := Lib.hid (decide_eq_true h1)
  have H2 := Lib.hid (decide_eq_false h2)
  clear h1 h2
  clear hw
  have hkw : Below w.heap.size w (((w.alloc (.cells #[.int .i64 fn, .int .i64 at_, .int .i64 n, .int .u16 v, .int .u16 an, .int .u16 orr, .slice BA bl bc, .slice WA wl wc, .int .i64 ra, .int .i64 rn, .int .i64 co, .int .i64 ob] 26)).alloc (.cells #[.int .i64 0, .int .i64 0, .slice none 0 0, .slice none 0 0, .int .i64 0, .int .i64 0, .int .u16 0, .int .u16 0, .int .u16 0, .int .i64 0, .int .i64 0, .bool false, .int .i64 0, .slice none 0 0] 64)).alloc (.cells #[.int .i64 fn, .int .i64 0, .slice none 0 0, .slice none 0 0, .int .i64 at_, .int .i64 n, .int .u16 v, .int .u16 an, .int .u16 orr, .int .i64 0, .int .i64 0, .bool false, .int .i64 0, .slice none 0 0] 64)) := (((Below.refl _ _).alloc (Nat.le_refl _) _).alloc (by simp) _).alloc (by simp; omega) _
  have hR : WholeV (((w.alloc (.cells #[.int .i64 fn, .int .i64 at_, .int .i64 n, .int .u16 v, .int .u16 an, .int .u16 orr, .slice BA bl bc, .slice WA wl wc, .int .i64 ra, .int .i64 rn, .int .i64 co, .int .i64 ob] 26)).alloc (.cells #[.int .i64 0, .int .i64 0, .slice none 0 0, .slice none 0 0, .int .i64 0, .int .i64 0, .int .u16 0, .int .u16 0, .int .u16 0, .int .i64 0, .int .i64 0, .bool false, .int .i64 0, .slice none 0 0] 64)).alloc (.cells #[.int .i64 fn, .int .i64 0, .slice none 0 0, .slice none 0 0, .int .i64 at_, .int .i64 n, .int .u16 v, .int .u16 an, .int .u16 orr, .int .i64 0, .int .i64 0, .bool false, .int .i64 0, .slice none 0 0] 64)) (w.heap.size + 1) 64 [.int .i64 0, .int .i64 0, .slice none 0 0, .slice none 0 0, .int .i64 0, .int .i64 0, .int .u16 0, .int .u16 0, .int .u16 0, .int .i64 0, .int .i64 0, .bool false, .int .i64 0, .slice none 0 0] := by
    have h := heap_alloc_new (w.alloc (.cells #[.int .i64 fn, .int .i64 at_, .int .i64 n, .int .u16 v, .int .u16 an, .int .u16 orr, .slice BA bl bc, .slice WA wl wc, .int .i64 ra, .int .i64 rn, .int .i64 co, .int .i64 ob] 26)) (.cells #[.int .i64 0, .int .i64 0, .slice none 0 0, .slice none 0 0, .int .i64 0, .int .i64 0, .int .u16 0, .int .u16 0, .int .u16 0, .int .i64 0, .int .i64 0, .bool false, .int .i64 0, .slice none 0 0] 64)
    rw [show (w.alloc (.cells #[.int .i64 fn, .int .i64 at_, .int .i64 n, .int .u16 v, .int .u16 an, .int .u16 orr, .slice BA bl bc, .slice WA wl wc, .int .i64 ra, .int .i64 rn, .int .i64 co, .int .i64 ob] 26)).heap.size = w.heap.size + 1 by simp] at h
    exact WholeV.below h ((Below.refl _ _).alloc (Nat.le_refl _) _) (by simp)
  have hT : WholeV (((w.alloc (.cells #[.int .i64 fn, .int .i64 at_, .int .i64 n, .int .u16 v, .int .u16 an, .int .u16 orr, .slice BA bl bc, .slice WA wl wc, .int .i64 ra, .int .i64 rn, .int .i64 co, .int .i64 ob] 26)).alloc (.cells #[.int .i64 0, .int .i64 0, .slice none 0 0, .slice none 0 0, .int .i64 0, .int .i64 0, .int .u16 0, .int .u16 0, .int .u16 0, .int .i64 0, .int .i64 0, .bool false, .int .i64 0, .slice none 0 0] 64)).alloc (.cells #[.int .i64 fn, .int .i64 0, .slice none 0 0, .slice none 0 0, .int .i64 at_, .int .i64 n, .int .u16 v, .int .u16 an, .int .u16 orr, .int .i64 0, .int .i64 0, .bool false, .int .i64 0, .slice none 0 0] 64)) (w.heap.size + 2) 64 [.int .i64 fn, .int .i64 0, .slice none 0 0, .slice none 0 0, .int .i64 at_, .int .i64 n, .int .u16 v, .int .u16 an, .int .u16 orr, .int .i64 0, .int .i64 0, .bool false, .int .i64 0, .slice none 0 0] := by
    have h := heap_alloc_new ((w.alloc (.cells #[.int .i64 fn, .int .i64 at_, .int .i64 n, .int .u16 v, .int .u16 an, .int .u16 orr, .slice BA bl bc, .slice WA wl wc, .int .i64 ra, .int .i64 rn, .int .i64 co, .int .i64 ob] 26)).alloc (.cells #[.int .i64 0, .int .i64 0, .slice none 0 0, .slice none 0 0, .int .i64 0, .int .i64 0, .int .u16 0, .int .u16 0, .int .u16 0, .int .i64 0, .int .i64 0, .bool false, .int .i64 0, .slice none 0 0] 64)) (.cells #[.int .i64 fn, .int .i64 0, .slice none 0 0, .slice none 0 0, .int .i64 at_, .int .i64 n, .int .u16 v, .int .u16 an, .int .u16 orr, .int .i64 0, .int .i64 0, .bool false, .int .i64 0, .slice none 0 0] 64)
    rwa [show ((w.alloc (.cells #[.int .i64 fn, .int .i64 at_, .int .i64 n, .int .u16 v, .int .u16 an, .int .u16 orr, .slice BA bl bc, .slice WA wl wc, .int .i64 ra, .int .i64 rn, .int .i64 co, .int .i64 ob] 26)).alloc (.cells #[.int .i64 0, .int .i64 0, .slice none 0 0, .slice none 0 0, .int .i64 0, .int .i64 0, .int .u16 0, .int .u16 0, .int .u16 0, .int .i64 0, .int .i64 0, .bool false, .int .i64 0, .slice none 0 0] 64)).heap.size = w.heap.size + 2 by simp] at h
  have hA : WholeV (((w.alloc (.cells #[.int .i64 fn, .int .i64 at_, .int .i64 n, .int .u16 v, .int .u16 an, .int .u16 orr, .slice BA bl bc, .slice WA wl wc, .int .i64 ra, .int .i64 rn, .int .i64 co, .int .i64 ob] 26)).alloc (.cells #[.int .i64 0, .int .i64 0, .slice none 0 0, .slice none 0 0, .int .i64 0, .int .i64 0, .int .u16 0, .int .u16 0, .int .u16 0, .int .i64 0, .int .i64 0, .bool false, .int .i64 0, .slice none 0 0] 64)).alloc (.cells #[.int .i64 fn, .int .i64 0, .slice none 0 0, .slice none 0 0, .int .i64 at_, .int .i64 n, .int .u16 v, .int .u16 an, .int .u16 orr, .int .i64 0, .int .i64 0, .bool false, .int .i64 0, .slice none 0 0] 64)) w.heap.size 26 [.int .i64 fn, .int .i64 at_, .int .i64 n, .int .u16 v, .int .u16 an, .int .u16 orr, .slice BA bl bc, .slice WA wl wc, .int .i64 ra, .int .i64 rn, .int .i64 co, .int .i64 ob] := by
    have h : WholeV (w.alloc (.cells #[.int .i64 fn, .int .i64 at_, .int .i64 n, .int .u16 v, .int .u16 an, .int .u16 orr, .slice BA bl bc, .slice WA wl wc, .int .i64 ra, .int .i64 rn, .int .i64 co, .int .i64 ob] 26)) w.heap.size 26 [.int .i64 fn, .int .i64 at_, .int .i64 n, .int .u16 v, .int .u16 an, .int .u16 orr, .slice BA bl bc, .slice WA wl wc, .int .i64 ra, .int .i64 rn, .int .i64 co, .int .i64 ob] := heap_alloc_new w _
    exact (h.below ((Below.refl _ _).alloc (Nat.le_refl _) _) (by simp)).below ((Below.refl _ _).alloc (Nat.le_refl _) _) (by simp; omega)
  have HKW := Lib.hid hkw
  have HR := Lib.hid hR
  have HTb := Lib.hid hT
  have HA := Lib.hid hA
  clear hkw hR hT hA
  go_enter Try.func50, Try.ntmps50
  go_wp2_with fail
  refine (ptr_any fn 0 0 0 at_ n v an orr 0 0 false 0 0 none none none 0 0 0 _ true true HT.out (fits_nil _ _ _) H1.out).mono ?_
  rintro e w1 ⟨rfl, hb1⟩
  have h1 := HR.out.below hb1 HR.out.lt
  have h2 := HTb.out.below hb1 HTb.out.lt
  have h3 := HA.out.below hb1 HA.out.lt
  have hy1 : w.heap.size + 2 < w1.heap.size := h2.lt
  obtain ⟨ta0, ta1, ta2, ta3, ta4, ta5, ta6, ta7, ta8, ta9, ta10, ta11, ta12, ta13⟩ := cells14 h2
  obtain ⟨aa0, aa1, aa2, aa3, aa4, aa5, aa6, aa7, aa8, aa9, aa10, aa11⟩ := cells12e h3
  obtain ⟨ra_0, ra_1, ra_2, ra_3, ra_4, ra_5, ra_6, ra_7, ra_8, ra_9, ra_10, ra_11, ra_12, ra_13⟩ := cells14 h1
  have fa0 := h1.frozen 0
  have fa1 := h1.frozen 1
  have fa2 := h1.frozen 2
  have fa3 := h1.frozen 3
  have fa4 := h1.frozen 4
  have fa5 := h1.frozen 5
  have fa6 := h1.frozen 6
  have fa7 := h1.frozen 7
  have fa8 := h1.frozen 8
  have fa9 := h1.frozen 9
  have fa10 := h1.frozen 10
  have fa11 := h1.frozen 11
  have fa12 := h1.frozen 12
  have fa13 := h1.frozen 13
  have HB1 := Lib.hid (HKW.out.trans (hb1.mono HKW.out.size))
  have HR1 := Lib.hid h1
  have HT1 := Lib.hid h2
  clear hb1 h1 h2 h3
  go_wp2_with fail
  refine (pspent_lit fn at_ n v an orr bl wl ra rn co ob BA WA bc wc _ false HW.out H2.out).mono ?_
  rintro e w2 ⟨rfl, hb2⟩
  have h1 := HR1.out.below hb2 HR1.out.lt
  have h2 := HT1.out.below hb2 HT1.out.lt
  have hy2 : w.heap.size + 2 < w2.heap.size := h2.lt
  obtain ⟨tb0, tb1, tb2, tb3, tb4, tb5, tb6, tb7, tb8, tb9, tb10, tb11, tb12, tb13⟩ := cells14 h2
  obtain ⟨rb0, rb1, rb2, rb3, rb4, rb5, rb6, rb7, rb8, rb9, rb10, rb11, rb12, rb13⟩ := cells14 h1
  have fb0 := h1.frozen 0
  have fb1 := h1.frozen 1
  have fb2 := h1.frozen 2
  have fb3 := h1.frozen 3
  have fb4 := h1.frozen 4
  have fb5 := h1.frozen 5
  have fb6 := h1.frozen 6
  have fb7 := h1.frozen 7
  have fb8 := h1.frozen 8
  have fb9 := h1.frozen 9
  have fb10 := h1.frozen 10
  have fb11 := h1.frozen 11
  have fb12 := h1.frozen 12
  have fb13 := h1.frozen 13
  have HB2 := Lib.hid (HB1.out.trans (hb2.mono HB1.out.size))
  have HR2 := Lib.hid h1
  clear hb2 h1 h2
  go_wp2_with fail
  obtain ⟨w9, hw9⟩ : ∃ w9, ((((((((((((((w2.setCell ⟨w.heap.size + 1, 0, none⟩ (.int .i64 0)).setCell ⟨w.heap.size + 1, 1, none⟩ (.int .i64 0)).setCell ⟨w.heap.size + 1, 2, none⟩ (.slice none 0 0)).setCell ⟨w.heap.size + 1, 3, none⟩ (.slice none 0 0)).setCell ⟨w.heap.size + 1, 4, none⟩ (.int .i64 0)).setCell ⟨w.heap.size + 1, 5, none⟩ (.int .i64 0)).setCell ⟨w.heap.size + 1, 6, none⟩ (.int .u16 0)).setCell ⟨w.heap.size + 1, 7, none⟩ (.int .u16 0)).setCell ⟨w.heap.size + 1, 8, none⟩ (.int .u16 0)).setCell ⟨w.heap.size + 1, 9, none⟩ (.int .i64 0)).setCell ⟨w.heap.size + 1, 10, none⟩ (.int .i64 0)).setCell ⟨w.heap.size + 1, 11, none⟩ (.bool false)).setCell ⟨w.heap.size + 1, 12, none⟩ (.int .i64 0)).setCell ⟨w.heap.size + 1, 13, none⟩ (.slice none 0 0)) = w9 := ⟨_, rfl⟩
  have hwh := all14 HR2.out (.int .i64 0) (.int .i64 0) (.slice none 0 0) (.slice none 0 0) (.int .i64 0) (.int .i64 0) (.int .u16 0) (.int .u16 0) (.int .u16 0) (.int .i64 0) (.int .i64 0) (.bool false) (.int .i64 0) (.slice none 0 0) rfl
  rw [hw9] at hwh
  have hbb : Below w.heap.size w w9 := by
    rw [← hw9]
    exact ((((((((((((((HB2.out.setCell (p := ⟨w.heap.size + 1, 0, none⟩) (Nat.le_succ _) _).setCell (p := ⟨w.heap.size + 1, 1, none⟩) (Nat.le_succ _) _).setCell (p := ⟨w.heap.size + 1, 2, none⟩) (Nat.le_succ _) _).setCell (p := ⟨w.heap.size + 1, 3, none⟩) (Nat.le_succ _) _).setCell (p := ⟨w.heap.size + 1, 4, none⟩) (Nat.le_succ _) _).setCell (p := ⟨w.heap.size + 1, 5, none⟩) (Nat.le_succ _) _).setCell (p := ⟨w.heap.size + 1, 6, none⟩) (Nat.le_succ _) _).setCell (p := ⟨w.heap.size + 1, 7, none⟩) (Nat.le_succ _) _).setCell (p := ⟨w.heap.size + 1, 8, none⟩) (Nat.le_succ _) _).setCell (p := ⟨w.heap.size + 1, 9, none⟩) (Nat.le_succ _) _).setCell (p := ⟨w.heap.size + 1, 10, none⟩) (Nat.le_succ _) _).setCell (p := ⟨w.heap.size + 1, 11, none⟩) (Nat.le_succ _) _).setCell (p := ⟨w.heap.size + 1, 12, none⟩) (Nat.le_succ _) _).setCell (p := ⟨w.heap.size + 1, 13, none⟩) (Nat.le_succ _) _)
  rw [hw9]
  obtain ⟨he0, he1, he2, he3, he4, he5, he6, he7, he8, he9, he10, he11, he12, he13⟩ := cells14 hwh
  exact bodyPost_ret (v := .agg #[.int .i64 0, .int .i64 0, .slice none 0 0, .slice none 0 0, .int .i64 0, .int .i64 0, .int .u16 0, .int .u16 0, .int .u16 0, .int .i64 0, .int .i64 0, .bool false, .int .i64 0, .slice none 0 0]) (by simp [results, Try.results50, go_sem, he0, he1, he2, he3, he4, he5, he6, he7, he8, he9, he10, he11, he12, he13]) rfl ⟨rfl, hbb⟩

end Go.Proofs.Ytijfeffjjcbijaa

/- The document's Echo. -/
import Derived.Test.YtijfeffjjcbijaaTEcho
import Derived.Test.YtijfeffjjcbijaaAskWhole
namespace Go.Proofs.Ytijfeffjjcbijaa
open Go.ChangeShapes Go.WideShapes Go.ChangeAt Go.RowKit
set_option linter.unusedVariables false
set_option linter.unusedSimpArgs false

theorem right_litE (fn at_ n v an orr : Int) (bl wl : Nat) (ra rn co ob : Int) (BA WA : Option Addr) (bc wc : Nat) (w : World) (bb : Bool) (h : decide (rightP fn at_ n v an orr bl wl ra rn co ob) = bb) :
    Calls Try.prog 58 #[.agg #[.int .i64 fn, .int .i64 at_, .int .i64 n, .int .u16 v, .int .u16 an, .int .u16 orr, .slice BA bl bc, .slice WA wl wc, .int .i64 ra, .int .i64 rn, .int .i64 co, .int .i64 ob]] w fun e w' => e = .returned (.bool bb) ∧ Below w.heap.size w w' := by
  rw [← h]
  exact rright_any fn at_ n v an orr bl wl ra rn co ob BA WA bc wc w

set_option maxRecDepth 100000 in
set_option maxHeartbeats 1000000 in
theorem recho_no (fn at_ n v an orr : Int) (bl wl : Nat) (ra rn co ob : Int) (BA WA : Option Addr) (bc wc : Nat) (w : World) (h : ¬ rightP fn at_ n v an orr bl wl ra rn co ob) :
    Calls Try.prog 51 #[.agg #[.int .i64 fn, .int .i64 at_, .int .i64 n, .int .u16 v, .int .u16 an, .int .u16 orr, .slice BA bl bc, .slice WA wl wc, .int .i64 ra, .int .i64 rn, .int .i64 co, .int .i64 ob]] w fun e w' => e = .returned (.agg #[.int .i64 0, .int .i64 0, .slice none 0 0, .slice none 0 0, .int .i64 0, .int .i64 0, .int .u16 0, .int .u16 0, .int .u16 0, .int .i64 0, .int .i64 0, .bool false, .int .i64 0, .slice none 0 0]) ∧ Below w.heap.size w w' := by
  have H1 := Lib.hid (decide_eq_false h)
  clear h
  have hkw : Below w.heap.size w ((w.alloc (.cells #[.int .i64 fn, .int .i64 at_, .int .i64 n, .int .u16 v, .int .u16 an, .int .u16 orr, .slice BA bl bc, .slice WA wl wc, .int .i64 ra, .int .i64 rn, .int .i64 co, .int .i64 ob] 26)).alloc (.cells #[.int .i64 0, .int .i64 0, .slice none 0 0, .slice none 0 0, .int .i64 0, .int .i64 0, .int .u16 0, .int .u16 0, .int .u16 0, .int .i64 0, .int .i64 0, .bool false, .int .i64 0, .slice none 0 0] 64)) := ((Below.refl _ _).alloc (Nat.le_refl _) _).alloc (by simp) _
  have hR : WholeV ((w.alloc (.cells #[.int .i64 fn, .int .i64 at_, .int .i64 n, .int .u16 v, .int .u16 an, .int .u16 orr, .slice BA bl bc, .slice WA wl wc, .int .i64 ra, .int .i64 rn, .int .i64 co, .int .i64 ob] 26)).alloc (.cells #[.int .i64 0, .int .i64 0, .slice none 0 0, .slice none 0 0, .int .i64 0, .int .i64 0, .int .u16 0, .int .u16 0, .int .u16 0, .int .i64 0, .int .i64 0, .bool false, .int .i64 0, .slice none 0 0] 64)) (w.heap.size + 1) 64 [.int .i64 0, .int .i64 0, .slice none 0 0, .slice none 0 0, .int .i64 0, .int .i64 0, .int .u16 0, .int .u16 0, .int .u16 0, .int .i64 0, .int .i64 0, .bool false, .int .i64 0, .slice none 0 0] := by
    have h := heap_alloc_new (w.alloc (.cells #[.int .i64 fn, .int .i64 at_, .int .i64 n, .int .u16 v, .int .u16 an, .int .u16 orr, .slice BA bl bc, .slice WA wl wc, .int .i64 ra, .int .i64 rn, .int .i64 co, .int .i64 ob] 26)) (.cells #[.int .i64 0, .int .i64 0, .slice none 0 0, .slice none 0 0, .int .i64 0, .int .i64 0, .int .u16 0, .int .u16 0, .int .u16 0, .int .i64 0, .int .i64 0, .bool false, .int .i64 0, .slice none 0 0] 64)
    rwa [show (w.alloc (.cells #[.int .i64 fn, .int .i64 at_, .int .i64 n, .int .u16 v, .int .u16 an, .int .u16 orr, .slice BA bl bc, .slice WA wl wc, .int .i64 ra, .int .i64 rn, .int .i64 co, .int .i64 ob] 26)).heap.size = w.heap.size + 1 by simp] at h
  have hA : WholeV ((w.alloc (.cells #[.int .i64 fn, .int .i64 at_, .int .i64 n, .int .u16 v, .int .u16 an, .int .u16 orr, .slice BA bl bc, .slice WA wl wc, .int .i64 ra, .int .i64 rn, .int .i64 co, .int .i64 ob] 26)).alloc (.cells #[.int .i64 0, .int .i64 0, .slice none 0 0, .slice none 0 0, .int .i64 0, .int .i64 0, .int .u16 0, .int .u16 0, .int .u16 0, .int .i64 0, .int .i64 0, .bool false, .int .i64 0, .slice none 0 0] 64)) w.heap.size 26 [.int .i64 fn, .int .i64 at_, .int .i64 n, .int .u16 v, .int .u16 an, .int .u16 orr, .slice BA bl bc, .slice WA wl wc, .int .i64 ra, .int .i64 rn, .int .i64 co, .int .i64 ob] := by
    have h : WholeV (w.alloc (.cells #[.int .i64 fn, .int .i64 at_, .int .i64 n, .int .u16 v, .int .u16 an, .int .u16 orr, .slice BA bl bc, .slice WA wl wc, .int .i64 ra, .int .i64 rn, .int .i64 co, .int .i64 ob] 26)) w.heap.size 26 [.int .i64 fn, .int .i64 at_, .int .i64 n, .int .u16 v, .int .u16 an, .int .u16 orr, .slice BA bl bc, .slice WA wl wc, .int .i64 ra, .int .i64 rn, .int .i64 co, .int .i64 ob] := heap_alloc_new w _
    exact h.below ((Below.refl _ _).alloc (Nat.le_refl _) _) (by simp)
  have HKW := Lib.hid hkw
  have HR := Lib.hid hR
  have HA := Lib.hid hA
  clear hkw hR hA
  go_enter Try.func51, Try.ntmps51
  go_wp2_with fail
  refine (right_litE fn at_ n v an orr bl wl ra rn co ob BA WA bc wc _ false H1.out).mono ?_
  rintro e w1 ⟨rfl, hb1⟩
  have h1 := HR.out.below hb1 HR.out.lt
  have h3 := HA.out.below hb1 HA.out.lt
  have hy1 : w.heap.size + 1 < w1.heap.size := h1.lt
  obtain ⟨aa0, aa1, aa2, aa3, aa4, aa5, aa6, aa7, aa8, aa9, aa10, aa11⟩ := cells12e h3
  obtain ⟨rr0, rr1, rr2, rr3, rr4, rr5, rr6, rr7, rr8, rr9, rr10, rr11, rr12, rr13⟩ := cells14 h1
  have fa0 := h1.frozen 0
  have fa1 := h1.frozen 1
  have fa2 := h1.frozen 2
  have fa3 := h1.frozen 3
  have fa4 := h1.frozen 4
  have fa5 := h1.frozen 5
  have fa6 := h1.frozen 6
  have fa7 := h1.frozen 7
  have fa8 := h1.frozen 8
  have fa9 := h1.frozen 9
  have fa10 := h1.frozen 10
  have fa11 := h1.frozen 11
  have fa12 := h1.frozen 12
  have fa13 := h1.frozen 13
  have HB1 := Lib.hid (HKW.out.trans (hb1.mono HKW.out.size))
  have HR1 := Lib.hid h1
  clear hb1 h1 h3
  go_wp2_with fail
  obtain ⟨w9, hw9⟩ : ∃ w9, ((((((((((((((w1.setCell ⟨w.heap.size + 1, 0, none⟩ (.int .i64 0)).setCell ⟨w.heap.size + 1, 1, none⟩ (.int .i64 0)).setCell ⟨w.heap.size + 1, 2, none⟩ (.slice none 0 0)).setCell ⟨w.heap.size + 1, 3, none⟩ (.slice none 0 0)).setCell ⟨w.heap.size + 1, 4, none⟩ (.int .i64 0)).setCell ⟨w.heap.size + 1, 5, none⟩ (.int .i64 0)).setCell ⟨w.heap.size + 1, 6, none⟩ (.int .u16 0)).setCell ⟨w.heap.size + 1, 7, none⟩ (.int .u16 0)).setCell ⟨w.heap.size + 1, 8, none⟩ (.int .u16 0)).setCell ⟨w.heap.size + 1, 9, none⟩ (.int .i64 0)).setCell ⟨w.heap.size + 1, 10, none⟩ (.int .i64 0)).setCell ⟨w.heap.size + 1, 11, none⟩ (.bool false)).setCell ⟨w.heap.size + 1, 12, none⟩ (.int .i64 0)).setCell ⟨w.heap.size + 1, 13, none⟩ (.slice none 0 0)) = w9 := ⟨_, rfl⟩
  have hwh := all14 HR1.out (.int .i64 0) (.int .i64 0) (.slice none 0 0) (.slice none 0 0) (.int .i64 0) (.int .i64 0) (.int .u16 0) (.int .u16 0) (.int .u16 0) (.int .i64 0) (.int .i64 0) (.bool false) (.int .i64 0) (.slice none 0 0) rfl
  rw [hw9] at hwh
  have hbb : Below w.heap.size w w9 := by
    rw [← hw9]
    exact ((((((((((((((HB1.out.setCell (p := ⟨w.heap.size + 1, 0, none⟩) (Nat.le_succ _) _).setCell (p := ⟨w.heap.size + 1, 1, none⟩) (Nat.le_succ _) _).setCell (p := ⟨w.heap.size + 1, 2, none⟩) (Nat.le_succ _) _).setCell (p := ⟨w.heap.size + 1, 3, none⟩) (Nat.le_succ _) _).setCell (p := ⟨w.heap.size + 1, 4, none⟩) (Nat.le_succ _) _).setCell (p := ⟨w.heap.size + 1, 5, none⟩) (Nat.le_succ _) _).setCell (p := ⟨w.heap.size + 1, 6, none⟩) (Nat.le_succ _) _).setCell (p := ⟨w.heap.size + 1, 7, none⟩) (Nat.le_succ _) _).setCell (p := ⟨w.heap.size + 1, 8, none⟩) (Nat.le_succ _) _).setCell (p := ⟨w.heap.size + 1, 9, none⟩) (Nat.le_succ _) _).setCell (p := ⟨w.heap.size + 1, 10, none⟩) (Nat.le_succ _) _).setCell (p := ⟨w.heap.size + 1, 11, none⟩) (Nat.le_succ _) _).setCell (p := ⟨w.heap.size + 1, 12, none⟩) (Nat.le_succ _) _).setCell (p := ⟨w.heap.size + 1, 13, none⟩) (Nat.le_succ _) _)
  rw [hw9]
  obtain ⟨he0, he1, he2, he3, he4, he5, he6, he7, he8, he9, he10, he11, he12, he13⟩ := cells14 hwh
  exact bodyPost_ret (v := .agg #[.int .i64 0, .int .i64 0, .slice none 0 0, .slice none 0 0, .int .i64 0, .int .i64 0, .int .u16 0, .int .u16 0, .int .u16 0, .int .i64 0, .int .i64 0, .bool false, .int .i64 0, .slice none 0 0]) (by simp [results, Try.results51, go_sem, he0, he1, he2, he3, he4, he5, he6, he7, he8, he9, he10, he11, he12, he13]) rfl ⟨rfl, hbb⟩

set_option maxRecDepth 100000 in
set_option maxHeartbeats 1000000 in
theorem recho_5 (at_ n v an orr : Int) (bl wl : Nat) (ra rn co ob : Int) (BA WA : Option Addr) (bc wc : Nat) (w : World) (h : rightP 5 at_ n v an orr bl wl ra rn co ob) :
    Calls Try.prog 51 #[.agg #[.int .i64 5, .int .i64 at_, .int .i64 n, .int .u16 v, .int .u16 an, .int .u16 orr, .slice BA bl bc, .slice WA wl wc, .int .i64 ra, .int .i64 rn, .int .i64 co, .int .i64 ob]] w fun e w' => e = .returned (.agg #[.int .i64 5, .int .i64 0, .slice none 0 0, .slice none 0 0, .int .i64 at_, .int .i64 0, .int .u16 v, .int .u16 0, .int .u16 0, .int .i64 0, .int .i64 0, .bool false, .int .i64 0, .slice none 0 0]) ∧ Below w.heap.size w w' := by
  have H1 := Lib.hid (decide_eq_true h)
  clear h
  have hkw : Below w.heap.size w ((w.alloc (.cells #[.int .i64 5, .int .i64 at_, .int .i64 n, .int .u16 v, .int .u16 an, .int .u16 orr, .slice BA bl bc, .slice WA wl wc, .int .i64 ra, .int .i64 rn, .int .i64 co, .int .i64 ob] 26)).alloc (.cells #[.int .i64 0, .int .i64 0, .slice none 0 0, .slice none 0 0, .int .i64 0, .int .i64 0, .int .u16 0, .int .u16 0, .int .u16 0, .int .i64 0, .int .i64 0, .bool false, .int .i64 0, .slice none 0 0] 64)) := ((Below.refl _ _).alloc (Nat.le_refl _) _).alloc (by simp) _
  have hR : WholeV ((w.alloc (.cells #[.int .i64 5, .int .i64 at_, .int .i64 n, .int .u16 v, .int .u16 an, .int .u16 orr, .slice BA bl bc, .slice WA wl wc, .int .i64 ra, .int .i64 rn, .int .i64 co, .int .i64 ob] 26)).alloc (.cells #[.int .i64 0, .int .i64 0, .slice none 0 0, .slice none 0 0, .int .i64 0, .int .i64 0, .int .u16 0, .int .u16 0, .int .u16 0, .int .i64 0, .int .i64 0, .bool false, .int .i64 0, .slice none 0 0] 64)) (w.heap.size + 1) 64 [.int .i64 0, .int .i64 0, .slice none 0 0, .slice none 0 0, .int .i64 0, .int .i64 0, .int .u16 0, .int .u16 0, .int .u16 0, .int .i64 0, .int .i64 0, .bool false, .int .i64 0, .slice none 0 0] := by
    have h := heap_alloc_new (w.alloc (.cells #[.int .i64 5, .int .i64 at_, .int .i64 n, .int .u16 v, .int .u16 an, .int .u16 orr, .slice BA bl bc, .slice WA wl wc, .int .i64 ra, .int .i64 rn, .int .i64 co, .int .i64 ob] 26)) (.cells #[.int .i64 0, .int .i64 0, .slice none 0 0, .slice none 0 0, .int .i64 0, .int .i64 0, .int .u16 0, .int .u16 0, .int .u16 0, .int .i64 0, .int .i64 0, .bool false, .int .i64 0, .slice none 0 0] 64)
    rwa [show (w.alloc (.cells #[.int .i64 5, .int .i64 at_, .int .i64 n, .int .u16 v, .int .u16 an, .int .u16 orr, .slice BA bl bc, .slice WA wl wc, .int .i64 ra, .int .i64 rn, .int .i64 co, .int .i64 ob] 26)).heap.size = w.heap.size + 1 by simp] at h
  have hA : WholeV ((w.alloc (.cells #[.int .i64 5, .int .i64 at_, .int .i64 n, .int .u16 v, .int .u16 an, .int .u16 orr, .slice BA bl bc, .slice WA wl wc, .int .i64 ra, .int .i64 rn, .int .i64 co, .int .i64 ob] 26)).alloc (.cells #[.int .i64 0, .int .i64 0, .slice none 0 0, .slice none 0 0, .int .i64 0, .int .i64 0, .int .u16 0, .int .u16 0, .int .u16 0, .int .i64 0, .int .i64 0, .bool false, .int .i64 0, .slice none 0 0] 64)) w.heap.size 26 [.int .i64 5, .int .i64 at_, .int .i64 n, .int .u16 v, .int .u16 an, .int .u16 orr, .slice BA bl bc, .slice WA wl wc, .int .i64 ra, .int .i64 rn, .int .i64 co, .int .i64 ob] := by
    have h : WholeV (w.alloc (.cells #[.int .i64 5, .int .i64 at_, .int .i64 n, .int .u16 v, .int .u16 an, .int .u16 orr, .slice BA bl bc, .slice WA wl wc, .int .i64 ra, .int .i64 rn, .int .i64 co, .int .i64 ob] 26)) w.heap.size 26 [.int .i64 5, .int .i64 at_, .int .i64 n, .int .u16 v, .int .u16 an, .int .u16 orr, .slice BA bl bc, .slice WA wl wc, .int .i64 ra, .int .i64 rn, .int .i64 co, .int .i64 ob] := heap_alloc_new w _
    exact h.below ((Below.refl _ _).alloc (Nat.le_refl _) _) (by simp)
  have HKW := Lib.hid hkw
  have HR := Lib.hid hR
  have HA := Lib.hid hA
  clear hkw hR hA
  go_enter Try.func51, Try.ntmps51
  go_wp2_with fail
  refine (right_litE 5 at_ n v an orr bl wl ra rn co ob BA WA bc wc _ true H1.out).mono ?_
  rintro e w1 ⟨rfl, hb1⟩
  have h1 := HR.out.below hb1 HR.out.lt
  have h3 := HA.out.below hb1 HA.out.lt
  have hy1 : w.heap.size + 1 < w1.heap.size := h1.lt
  obtain ⟨aa0, aa1, aa2, aa3, aa4, aa5, aa6, aa7, aa8, aa9, aa10, aa11⟩ := cells12e h3
  obtain ⟨rr0, rr1, rr2, rr3, rr4, rr5, rr6, rr7, rr8, rr9, rr10, rr11, rr12, rr13⟩ := cells14 h1
  have fa0 := h1.frozen 0
  have fa1 := h1.frozen 1
  have fa2 := h1.frozen 2
  have fa3 := h1.frozen 3
  have fa4 := h1.frozen 4
  have fa5 := h1.frozen 5
  have fa6 := h1.frozen 6
  have fa7 := h1.frozen 7
  have fa8 := h1.frozen 8
  have fa9 := h1.frozen 9
  have fa10 := h1.frozen 10
  have fa11 := h1.frozen 11
  have fa12 := h1.frozen 12
  have fa13 := h1.frozen 13
  have HB1 := Lib.hid (HKW.out.trans (hb1.mono HKW.out.size))
  have HR1 := Lib.hid h1
  clear hb1 h1 h3
  go_wp2_with fail
  obtain ⟨w9, hw9⟩ : ∃ w9, ((((((((((((((w1.setCell ⟨w.heap.size + 1, 0, none⟩ (.int .i64 5)).setCell ⟨w.heap.size + 1, 1, none⟩ (.int .i64 0)).setCell ⟨w.heap.size + 1, 2, none⟩ (.slice none 0 0)).setCell ⟨w.heap.size + 1, 3, none⟩ (.slice none 0 0)).setCell ⟨w.heap.size + 1, 4, none⟩ (.int .i64 at_)).setCell ⟨w.heap.size + 1, 5, none⟩ (.int .i64 0)).setCell ⟨w.heap.size + 1, 6, none⟩ (.int .u16 v)).setCell ⟨w.heap.size + 1, 7, none⟩ (.int .u16 0)).setCell ⟨w.heap.size + 1, 8, none⟩ (.int .u16 0)).setCell ⟨w.heap.size + 1, 9, none⟩ (.int .i64 0)).setCell ⟨w.heap.size + 1, 10, none⟩ (.int .i64 0)).setCell ⟨w.heap.size + 1, 11, none⟩ (.bool false)).setCell ⟨w.heap.size + 1, 12, none⟩ (.int .i64 0)).setCell ⟨w.heap.size + 1, 13, none⟩ (.slice none 0 0)) = w9 := ⟨_, rfl⟩
  have hwh := all14 HR1.out (.int .i64 5) (.int .i64 0) (.slice none 0 0) (.slice none 0 0) (.int .i64 at_) (.int .i64 0) (.int .u16 v) (.int .u16 0) (.int .u16 0) (.int .i64 0) (.int .i64 0) (.bool false) (.int .i64 0) (.slice none 0 0) rfl
  rw [hw9] at hwh
  have hbb : Below w.heap.size w w9 := by
    rw [← hw9]
    exact ((((((((((((((HB1.out.setCell (p := ⟨w.heap.size + 1, 0, none⟩) (Nat.le_succ _) _).setCell (p := ⟨w.heap.size + 1, 1, none⟩) (Nat.le_succ _) _).setCell (p := ⟨w.heap.size + 1, 2, none⟩) (Nat.le_succ _) _).setCell (p := ⟨w.heap.size + 1, 3, none⟩) (Nat.le_succ _) _).setCell (p := ⟨w.heap.size + 1, 4, none⟩) (Nat.le_succ _) _).setCell (p := ⟨w.heap.size + 1, 5, none⟩) (Nat.le_succ _) _).setCell (p := ⟨w.heap.size + 1, 6, none⟩) (Nat.le_succ _) _).setCell (p := ⟨w.heap.size + 1, 7, none⟩) (Nat.le_succ _) _).setCell (p := ⟨w.heap.size + 1, 8, none⟩) (Nat.le_succ _) _).setCell (p := ⟨w.heap.size + 1, 9, none⟩) (Nat.le_succ _) _).setCell (p := ⟨w.heap.size + 1, 10, none⟩) (Nat.le_succ _) _).setCell (p := ⟨w.heap.size + 1, 11, none⟩) (Nat.le_succ _) _).setCell (p := ⟨w.heap.size + 1, 12, none⟩) (Nat.le_succ _) _).setCell (p := ⟨w.heap.size + 1, 13, none⟩) (Nat.le_succ _) _)
  rw [hw9]
  obtain ⟨he0, he1, he2, he3, he4, he5, he6, he7, he8, he9, he10, he11, he12, he13⟩ := cells14 hwh
  exact bodyPost_ret (v := .agg #[.int .i64 5, .int .i64 0, .slice none 0 0, .slice none 0 0, .int .i64 at_, .int .i64 0, .int .u16 v, .int .u16 0, .int .u16 0, .int .i64 0, .int .i64 0, .bool false, .int .i64 0, .slice none 0 0]) (by simp [results, Try.results51, go_sem, he0, he1, he2, he3, he4, he5, he6, he7, he8, he9, he10, he11, he12, he13]) rfl ⟨rfl, hbb⟩

set_option maxRecDepth 100000 in
set_option maxHeartbeats 1000000 in
theorem recho_6 (at_ n v an orr : Int) (bl wl : Nat) (ra rn co ob : Int) (BA WA : Option Addr) (bc wc : Nat) (w : World) (h : rightP 6 at_ n v an orr bl wl ra rn co ob) :
    Calls Try.prog 51 #[.agg #[.int .i64 6, .int .i64 at_, .int .i64 n, .int .u16 v, .int .u16 an, .int .u16 orr, .slice BA bl bc, .slice WA wl wc, .int .i64 ra, .int .i64 rn, .int .i64 co, .int .i64 ob]] w fun e w' => e = .returned (.agg #[.int .i64 6, .int .i64 0, .slice none 0 0, .slice none 0 0, .int .i64 at_, .int .i64 0, .int .u16 v, .int .u16 0, .int .u16 0, .int .i64 0, .int .i64 0, .bool false, .int .i64 0, .slice none 0 0]) ∧ Below w.heap.size w w' := by
  have H1 := Lib.hid (decide_eq_true h)
  clear h
  have hkw : Below w.heap.size w ((w.alloc (.cells #[.int .i64 6, .int .i64 at_, .int .i64 n, .int .u16 v, .int .u16 an, .int .u16 orr, .slice BA bl bc, .slice WA wl wc, .int .i64 ra, .int .i64 rn, .int .i64 co, .int .i64 ob] 26)).alloc (.cells #[.int .i64 0, .int .i64 0, .slice none 0 0, .slice none 0 0, .int .i64 0, .int .i64 0, .int .u16 0, .int .u16 0, .int .u16 0, .int .i64 0, .int .i64 0, .bool false, .int .i64 0, .slice none 0 0] 64)) := ((Below.refl _ _).alloc (Nat.le_refl _) _).alloc (by simp) _
  have hR : WholeV ((w.alloc (.cells #[.int .i64 6, .int .i64 at_, .int .i64 n, .int .u16 v, .int .u16 an, .int .u16 orr, .slice BA bl bc, .slice WA wl wc, .int .i64 ra, .int .i64 rn, .int .i64 co, .int .i64 ob] 26)).alloc (.cells #[.int .i64 0, .int .i64 0, .slice none 0 0, .slice none 0 0, .int .i64 0, .int .i64 0, .int .u16 0, .int .u16 0, .int .u16 0, .int .i64 0, .int .i64 0, .bool false, .int .i64 0, .slice none 0 0] 64)) (w.heap.size + 1) 64 [.int .i64 0, .int .i64 0, .slice none 0 0, .slice none 0 0, .int .i64 0, .int .i64 0, .int .u16 0, .int .u16 0, .int .u16 0, .int .i64 0, .int .i64 0, .bool false, .int .i64 0, .slice none 0 0] := by
    have h := heap_alloc_new (w.alloc (.cells #[.int .i64 6, .int .i64 at_, .int .i64 n, .int .u16 v, .int .u16 an, .int .u16 orr, .slice BA bl bc, .slice WA wl wc, .int .i64 ra, .int .i64 rn, .int .i64 co, .int .i64 ob] 26)) (.cells #[.int .i64 0, .int .i64 0, .slice none 0 0, .slice none 0 0, .int .i64 0, .int .i64 0, .int .u16 0, .int .u16 0, .int .u16 0, .int .i64 0, .int .i64 0, .bool false, .int .i64 0, .slice none 0 0] 64)
    rwa [show (w.alloc (.cells #[.int .i64 6, .int .i64 at_, .int .i64 n, .int .u16 v, .int .u16 an, .int .u16 orr, .slice BA bl bc, .slice WA wl wc, .int .i64 ra, .int .i64 rn, .int .i64 co, .int .i64 ob] 26)).heap.size = w.heap.size + 1 by simp] at h
  have hA : WholeV ((w.alloc (.cells #[.int .i64 6, .int .i64 at_, .int .i64 n, .int .u16 v, .int .u16 an, .int .u16 orr, .slice BA bl bc, .slice WA wl wc, .int .i64 ra, .int .i64 rn, .int .i64 co, .int .i64 ob] 26)).alloc (.cells #[.int .i64 0, .int .i64 0, .slice none 0 0, .slice none 0 0, .int .i64 0, .int .i64 0, .int .u16 0, .int .u16 0, .int .u16 0, .int .i64 0, .int .i64 0, .bool false, .int .i64 0, .slice none 0 0] 64)) w.heap.size 26 [.int .i64 6, .int .i64 at_, .int .i64 n, .int .u16 v, .int .u16 an, .int .u16 orr, .slice BA bl bc, .slice WA wl wc, .int .i64 ra, .int .i64 rn, .int .i64 co, .int .i64 ob] := by
    have h : WholeV (w.alloc (.cells #[.int .i64 6, .int .i64 at_, .int .i64 n, .int .u16 v, .int .u16 an, .int .u16 orr, .slice BA bl bc, .slice WA wl wc, .int .i64 ra, .int .i64 rn, .int .i64 co, .int .i64 ob] 26)) w.heap.size 26 [.int .i64 6, .int .i64 at_, .int .i64 n, .int .u16 v, .int .u16 an, .int .u16 orr, .slice BA bl bc, .slice WA wl wc, .int .i64 ra, .int .i64 rn, .int .i64 co, .int .i64 ob] := heap_alloc_new w _
    exact h.below ((Below.refl _ _).alloc (Nat.le_refl _) _) (by simp)
  have HKW := Lib.hid hkw
  have HR := Lib.hid hR
  have HA := Lib.hid hA
  clear hkw hR hA
  go_enter Try.func51, Try.ntmps51
  go_wp2_with fail
  refine (right_litE 6 at_ n v an orr bl wl ra rn co ob BA WA bc wc _ true H1.out).mono ?_
  rintro e w1 ⟨rfl, hb1⟩
  have h1 := HR.out.below hb1 HR.out.lt
  have h3 := HA.out.below hb1 HA.out.lt
  have hy1 : w.heap.size + 1 < w1.heap.size := h1.lt
  obtain ⟨aa0, aa1, aa2, aa3, aa4, aa5, aa6, aa7, aa8, aa9, aa10, aa11⟩ := cells12e h3
  obtain ⟨rr0, rr1, rr2, rr3, rr4, rr5, rr6, rr7, rr8, rr9, rr10, rr11, rr12, rr13⟩ := cells14 h1
  have fa0 := h1.frozen 0
  have fa1 := h1.frozen 1
  have fa2 := h1.frozen 2
  have fa3 := h1.frozen 3
  have fa4 := h1.frozen 4
  have fa5 := h1.frozen 5
  have fa6 := h1.frozen 6
  have fa7 := h1.frozen 7
  have fa8 := h1.frozen 8
  have fa9 := h1.frozen 9
  have fa10 := h1.frozen 10
  have fa11 := h1.frozen 11
  have fa12 := h1.frozen 12
  have fa13 := h1.frozen 13
  have HB1 := Lib.hid (HKW.out.trans (hb1.mono HKW.out.size))
  have HR1 := Lib.hid h1
  clear hb1 h1 h3
  go_wp2_with fail
  obtain ⟨w9, hw9⟩ : ∃ w9, ((((((((((((((w1.setCell ⟨w.heap.size + 1, 0, none⟩ (.int .i64 6)).setCell ⟨w.heap.size + 1, 1, none⟩ (.int .i64 0)).setCell ⟨w.heap.size + 1, 2, none⟩ (.slice none 0 0)).setCell ⟨w.heap.size + 1, 3, none⟩ (.slice none 0 0)).setCell ⟨w.heap.size + 1, 4, none⟩ (.int .i64 at_)).setCell ⟨w.heap.size + 1, 5, none⟩ (.int .i64 0)).setCell ⟨w.heap.size + 1, 6, none⟩ (.int .u16 v)).setCell ⟨w.heap.size + 1, 7, none⟩ (.int .u16 0)).setCell ⟨w.heap.size + 1, 8, none⟩ (.int .u16 0)).setCell ⟨w.heap.size + 1, 9, none⟩ (.int .i64 0)).setCell ⟨w.heap.size + 1, 10, none⟩ (.int .i64 0)).setCell ⟨w.heap.size + 1, 11, none⟩ (.bool false)).setCell ⟨w.heap.size + 1, 12, none⟩ (.int .i64 0)).setCell ⟨w.heap.size + 1, 13, none⟩ (.slice none 0 0)) = w9 := ⟨_, rfl⟩
  have hwh := all14 HR1.out (.int .i64 6) (.int .i64 0) (.slice none 0 0) (.slice none 0 0) (.int .i64 at_) (.int .i64 0) (.int .u16 v) (.int .u16 0) (.int .u16 0) (.int .i64 0) (.int .i64 0) (.bool false) (.int .i64 0) (.slice none 0 0) rfl
  rw [hw9] at hwh
  have hbb : Below w.heap.size w w9 := by
    rw [← hw9]
    exact ((((((((((((((HB1.out.setCell (p := ⟨w.heap.size + 1, 0, none⟩) (Nat.le_succ _) _).setCell (p := ⟨w.heap.size + 1, 1, none⟩) (Nat.le_succ _) _).setCell (p := ⟨w.heap.size + 1, 2, none⟩) (Nat.le_succ _) _).setCell (p := ⟨w.heap.size + 1, 3, none⟩) (Nat.le_succ _) _).setCell (p := ⟨w.heap.size + 1, 4, none⟩) (Nat.le_succ _) _).setCell (p := ⟨w.heap.size + 1, 5, none⟩) (Nat.le_succ _) _).setCell (p := ⟨w.heap.size + 1, 6, none⟩) (Nat.le_succ _) _).setCell (p := ⟨w.heap.size + 1, 7, none⟩) (Nat.le_succ _) _).setCell (p := ⟨w.heap.size + 1, 8, none⟩) (Nat.le_succ _) _).setCell (p := ⟨w.heap.size + 1, 9, none⟩) (Nat.le_succ _) _).setCell (p := ⟨w.heap.size + 1, 10, none⟩) (Nat.le_succ _) _).setCell (p := ⟨w.heap.size + 1, 11, none⟩) (Nat.le_succ _) _).setCell (p := ⟨w.heap.size + 1, 12, none⟩) (Nat.le_succ _) _).setCell (p := ⟨w.heap.size + 1, 13, none⟩) (Nat.le_succ _) _)
  rw [hw9]
  obtain ⟨he0, he1, he2, he3, he4, he5, he6, he7, he8, he9, he10, he11, he12, he13⟩ := cells14 hwh
  exact bodyPost_ret (v := .agg #[.int .i64 6, .int .i64 0, .slice none 0 0, .slice none 0 0, .int .i64 at_, .int .i64 0, .int .u16 v, .int .u16 0, .int .u16 0, .int .i64 0, .int .i64 0, .bool false, .int .i64 0, .slice none 0 0]) (by simp [results, Try.results51, go_sem, he0, he1, he2, he3, he4, he5, he6, he7, he8, he9, he10, he11, he12, he13]) rfl ⟨rfl, hbb⟩

set_option maxRecDepth 100000 in
set_option maxHeartbeats 1000000 in
theorem recho_15 (at_ n v an orr : Int) (bl wl : Nat) (ra rn co ob : Int) (BA WA : Option Addr) (bc wc : Nat) (w : World) (h : rightP 15 at_ n v an orr bl wl ra rn co ob) :
    Calls Try.prog 51 #[.agg #[.int .i64 15, .int .i64 at_, .int .i64 n, .int .u16 v, .int .u16 an, .int .u16 orr, .slice BA bl bc, .slice WA wl wc, .int .i64 ra, .int .i64 rn, .int .i64 co, .int .i64 ob]] w fun e w' => e = .returned (.agg #[.int .i64 15, .int .i64 0, .slice none 0 0, .slice none 0 0, .int .i64 at_, .int .i64 n, .int .u16 0, .int .u16 0, .int .u16 0, .int .i64 0, .int .i64 0, .bool false, .int .i64 0, .slice none 0 0]) ∧ Below w.heap.size w w' := by
  have H1 := Lib.hid (decide_eq_true h)
  clear h
  have hkw : Below w.heap.size w ((w.alloc (.cells #[.int .i64 15, .int .i64 at_, .int .i64 n, .int .u16 v, .int .u16 an, .int .u16 orr, .slice BA bl bc, .slice WA wl wc, .int .i64 ra, .int .i64 rn, .int .i64 co, .int .i64 ob] 26)).alloc (.cells #[.int .i64 0, .int .i64 0, .slice none 0 0, .slice none 0 0, .int .i64 0, .int .i64 0, .int .u16 0, .int .u16 0, .int .u16 0, .int .i64 0, .int .i64 0, .bool false, .int .i64 0, .slice none 0 0] 64)) := ((Below.refl _ _).alloc (Nat.le_refl _) _).alloc (by simp) _
  have hR : WholeV ((w.alloc (.cells #[.int .i64 15, .int .i64 at_, .int .i64 n, .int .u16 v, .int .u16 an, .int .u16 orr, .slice BA bl bc, .slice WA wl wc, .int .i64 ra, .int .i64 rn, .int .i64 co, .int .i64 ob] 26)).alloc (.cells #[.int .i64 0, .int .i64 0, .slice none 0 0, .slice none 0 0, .int .i64 0, .int .i64 0, .int .u16 0, .int .u16 0, .int .u16 0, .int .i64 0, .int .i64 0, .bool false, .int .i64 0, .slice none 0 0] 64)) (w.heap.size + 1) 64 [.int .i64 0, .int .i64 0, .slice none 0 0, .slice none 0 0, .int .i64 0, .int .i64 0, .int .u16 0, .int .u16 0, .int .u16 0, .int .i64 0, .int .i64 0, .bool false, .int .i64 0, .slice none 0 0] := by
    have h := heap_alloc_new (w.alloc (.cells #[.int .i64 15, .int .i64 at_, .int .i64 n, .int .u16 v, .int .u16 an, .int .u16 orr, .slice BA bl bc, .slice WA wl wc, .int .i64 ra, .int .i64 rn, .int .i64 co, .int .i64 ob] 26)) (.cells #[.int .i64 0, .int .i64 0, .slice none 0 0, .slice none 0 0, .int .i64 0, .int .i64 0, .int .u16 0, .int .u16 0, .int .u16 0, .int .i64 0, .int .i64 0, .bool false, .int .i64 0, .slice none 0 0] 64)
    rwa [show (w.alloc (.cells #[.int .i64 15, .int .i64 at_, .int .i64 n, .int .u16 v, .int .u16 an, .int .u16 orr, .slice BA bl bc, .slice WA wl wc, .int .i64 ra, .int .i64 rn, .int .i64 co, .int .i64 ob] 26)).heap.size = w.heap.size + 1 by simp] at h
  have hA : WholeV ((w.alloc (.cells #[.int .i64 15, .int .i64 at_, .int .i64 n, .int .u16 v, .int .u16 an, .int .u16 orr, .slice BA bl bc, .slice WA wl wc, .int .i64 ra, .int .i64 rn, .int .i64 co, .int .i64 ob] 26)).alloc (.cells #[.int .i64 0, .int .i64 0, .slice none 0 0, .slice none 0 0, .int .i64 0, .int .i64 0, .int .u16 0, .int .u16 0, .int .u16 0, .int .i64 0, .int .i64 0, .bool false, .int .i64 0, .slice none 0 0] 64)) w.heap.size 26 [.int .i64 15, .int .i64 at_, .int .i64 n, .int .u16 v, .int .u16 an, .int .u16 orr, .slice BA bl bc, .slice WA wl wc, .int .i64 ra, .int .i64 rn, .int .i64 co, .int .i64 ob] := by
    have h : WholeV (w.alloc (.cells #[.int .i64 15, .int .i64 at_, .int .i64 n, .int .u16 v, .int .u16 an, .int .u16 orr, .slice BA bl bc, .slice WA wl wc, .int .i64 ra, .int .i64 rn, .int .i64 co, .int .i64 ob] 26)) w.heap.size 26 [.int .i64 15, .int .i64 at_, .int .i64 n, .int .u16 v, .int .u16 an, .int .u16 orr, .slice BA bl bc, .slice WA wl wc, .int .i64 ra, .int .i64 rn, .int .i64 co, .int .i64 ob] := heap_alloc_new w _
    exact h.below ((Below.refl _ _).alloc (Nat.le_refl _) _) (by simp)
  have HKW := Lib.hid hkw
  have HR := Lib.hid hR
  have HA := Lib.hid hA
  clear hkw hR hA
  go_enter Try.func51, Try.ntmps51
  go_wp2_with fail
  refine (right_litE 15 at_ n v an orr bl wl ra rn co ob BA WA bc wc _ true H1.out).mono ?_
  rintro e w1 ⟨rfl, hb1⟩
  have h1 := HR.out.below hb1 HR.out.lt
  have h3 := HA.out.below hb1 HA.out.lt
  have hy1 : w.heap.size + 1 < w1.heap.size := h1.lt
  obtain ⟨aa0, aa1, aa2, aa3, aa4, aa5, aa6, aa7, aa8, aa9, aa10, aa11⟩ := cells12e h3
  obtain ⟨rr0, rr1, rr2, rr3, rr4, rr5, rr6, rr7, rr8, rr9, rr10, rr11, rr12, rr13⟩ := cells14 h1
  have fa0 := h1.frozen 0
  have fa1 := h1.frozen 1
  have fa2 := h1.frozen 2
  have fa3 := h1.frozen 3
  have fa4 := h1.frozen 4
  have fa5 := h1.frozen 5
  have fa6 := h1.frozen 6
  have fa7 := h1.frozen 7
  have fa8 := h1.frozen 8
  have fa9 := h1.frozen 9
  have fa10 := h1.frozen 10
  have fa11 := h1.frozen 11
  have fa12 := h1.frozen 12
  have fa13 := h1.frozen 13
  have HB1 := Lib.hid (HKW.out.trans (hb1.mono HKW.out.size))
  have HR1 := Lib.hid h1
  clear hb1 h1 h3
  go_wp2_with fail
  obtain ⟨w9, hw9⟩ : ∃ w9, ((((((((((((((w1.setCell ⟨w.heap.size + 1, 0, none⟩ (.int .i64 15)).setCell ⟨w.heap.size + 1, 1, none⟩ (.int .i64 0)).setCell ⟨w.heap.size + 1, 2, none⟩ (.slice none 0 0)).setCell ⟨w.heap.size + 1, 3, none⟩ (.slice none 0 0)).setCell ⟨w.heap.size + 1, 4, none⟩ (.int .i64 at_)).setCell ⟨w.heap.size + 1, 5, none⟩ (.int .i64 n)).setCell ⟨w.heap.size + 1, 6, none⟩ (.int .u16 0)).setCell ⟨w.heap.size + 1, 7, none⟩ (.int .u16 0)).setCell ⟨w.heap.size + 1, 8, none⟩ (.int .u16 0)).setCell ⟨w.heap.size + 1, 9, none⟩ (.int .i64 0)).setCell ⟨w.heap.size + 1, 10, none⟩ (.int .i64 0)).setCell ⟨w.heap.size + 1, 11, none⟩ (.bool false)).setCell ⟨w.heap.size + 1, 12, none⟩ (.int .i64 0)).setCell ⟨w.heap.size + 1, 13, none⟩ (.slice none 0 0)) = w9 := ⟨_, rfl⟩
  have hwh := all14 HR1.out (.int .i64 15) (.int .i64 0) (.slice none 0 0) (.slice none 0 0) (.int .i64 at_) (.int .i64 n) (.int .u16 0) (.int .u16 0) (.int .u16 0) (.int .i64 0) (.int .i64 0) (.bool false) (.int .i64 0) (.slice none 0 0) rfl
  rw [hw9] at hwh
  have hbb : Below w.heap.size w w9 := by
    rw [← hw9]
    exact ((((((((((((((HB1.out.setCell (p := ⟨w.heap.size + 1, 0, none⟩) (Nat.le_succ _) _).setCell (p := ⟨w.heap.size + 1, 1, none⟩) (Nat.le_succ _) _).setCell (p := ⟨w.heap.size + 1, 2, none⟩) (Nat.le_succ _) _).setCell (p := ⟨w.heap.size + 1, 3, none⟩) (Nat.le_succ _) _).setCell (p := ⟨w.heap.size + 1, 4, none⟩) (Nat.le_succ _) _).setCell (p := ⟨w.heap.size + 1, 5, none⟩) (Nat.le_succ _) _).setCell (p := ⟨w.heap.size + 1, 6, none⟩) (Nat.le_succ _) _).setCell (p := ⟨w.heap.size + 1, 7, none⟩) (Nat.le_succ _) _).setCell (p := ⟨w.heap.size + 1, 8, none⟩) (Nat.le_succ _) _).setCell (p := ⟨w.heap.size + 1, 9, none⟩) (Nat.le_succ _) _).setCell (p := ⟨w.heap.size + 1, 10, none⟩) (Nat.le_succ _) _).setCell (p := ⟨w.heap.size + 1, 11, none⟩) (Nat.le_succ _) _).setCell (p := ⟨w.heap.size + 1, 12, none⟩) (Nat.le_succ _) _).setCell (p := ⟨w.heap.size + 1, 13, none⟩) (Nat.le_succ _) _)
  rw [hw9]
  obtain ⟨he0, he1, he2, he3, he4, he5, he6, he7, he8, he9, he10, he11, he12, he13⟩ := cells14 hwh
  exact bodyPost_ret (v := .agg #[.int .i64 15, .int .i64 0, .slice none 0 0, .slice none 0 0, .int .i64 at_, .int .i64 n, .int .u16 0, .int .u16 0, .int .u16 0, .int .i64 0, .int .i64 0, .bool false, .int .i64 0, .slice none 0 0]) (by simp [results, Try.results51, go_sem, he0, he1, he2, he3, he4, he5, he6, he7, he8, he9, he10, he11, he12, he13]) rfl ⟨rfl, hbb⟩

set_option maxRecDepth 100000 in
set_option maxHeartbeats 1000000 in
theorem recho_16 (at_ n v an orr : Int) (bl wl : Nat) (ra rn co ob : Int) (BA WA : Option Addr) (bc wc : Nat) (w : World) (h : rightP 16 at_ n v an orr bl wl ra rn co ob) :
    Calls Try.prog 51 #[.agg #[.int .i64 16, .int .i64 at_, .int .i64 n, .int .u16 v, .int .u16 an, .int .u16 orr, .slice BA bl bc, .slice WA wl wc, .int .i64 ra, .int .i64 rn, .int .i64 co, .int .i64 ob]] w fun e w' => e = .returned (.agg #[.int .i64 16, .int .i64 0, .slice none 0 0, .slice none 0 0, .int .i64 at_, .int .i64 n, .int .u16 0, .int .u16 0, .int .u16 0, .int .i64 0, .int .i64 0, .bool false, .int .i64 0, .slice none 0 0]) ∧ Below w.heap.size w w' := by
  have H1 := Lib.hid (decide_eq_true h)
  clear h
  have hkw : Below w.heap.size w ((w.alloc (.cells #[.int .i64 16, .int .i64 at_, .int .i64 n, .int .u16 v, .int .u16 an, .int .u16 orr, .slice BA bl bc, .slice WA wl wc, .int .i64 ra, .int .i64 rn, .int .i64 co, .int .i64 ob] 26)).alloc (.cells #[.int .i64 0, .int .i64 0, .slice none 0 0, .slice none 0 0, .int .i64 0, .int .i64 0, .int .u16 0, .int .u16 0, .int .u16 0, .int .i64 0, .int .i64 0, .bool false, .int .i64 0, .slice none 0 0] 64)) := ((Below.refl _ _).alloc (Nat.le_refl _) _).alloc (by simp) _
  have hR : WholeV ((w.alloc (.cells #[.int .i64 16, .int .i64 at_, .int .i64 n, .int .u16 v, .int .u16 an, .int .u16 orr, .slice BA bl bc, .slice WA wl wc, .int .i64 ra, .int .i64 rn, .int .i64 co, .int .i64 ob] 26)).alloc (.cells #[.int .i64 0, .int .i64 0, .slice none 0 0, .slice none 0 0, .int .i64 0, .int .i64 0, .int .u16 0, .int .u16 0, .int .u16 0, .int .i64 0, .int .i64 0, .bool false, .int .i64 0, .slice none 0 0] 64)) (w.heap.size + 1) 64 [.int .i64 0, .int .i64 0, .slice none 0 0, .slice none 0 0, .int .i64 0, .int .i64 0, .int .u16 0, .int .u16 0, .int .u16 0, .int .i64 0, .int .i64 0, .bool false, .int .i64 0, .slice none 0 0] := by
    have h := heap_alloc_new (w.alloc (.cells #[.int .i64 16, .int .i64 at_, .int .i64 n, .int .u16 v, .int .u16 an, .int .u16 orr, .slice BA bl bc, .slice WA wl wc, .int .i64 ra, .int .i64 rn, .int .i64 co, .int .i64 ob] 26)) (.cells #[.int .i64 0, .int .i64 0, .slice none 0 0, .slice none 0 0, .int .i64 0, .int .i64 0, .int .u16 0, .int .u16 0, .int .u16 0, .int .i64 0, .int .i64 0, .bool false, .int .i64 0, .slice none 0 0] 64)
    rwa [show (w.alloc (.cells #[.int .i64 16, .int .i64 at_, .int .i64 n, .int .u16 v, .int .u16 an, .int .u16 orr, .slice BA bl bc, .slice WA wl wc, .int .i64 ra, .int .i64 rn, .int .i64 co, .int .i64 ob] 26)).heap.size = w.heap.size + 1 by simp] at h
  have hA : WholeV ((w.alloc (.cells #[.int .i64 16, .int .i64 at_, .int .i64 n, .int .u16 v, .int .u16 an, .int .u16 orr, .slice BA bl bc, .slice WA wl wc, .int .i64 ra, .int .i64 rn, .int .i64 co, .int .i64 ob] 26)).alloc (.cells #[.int .i64 0, .int .i64 0, .slice none 0 0, .slice none 0 0, .int .i64 0, .int .i64 0, .int .u16 0, .int .u16 0, .int .u16 0, .int .i64 0, .int .i64 0, .bool false, .int .i64 0, .slice none 0 0] 64)) w.heap.size 26 [.int .i64 16, .int .i64 at_, .int .i64 n, .int .u16 v, .int .u16 an, .int .u16 orr, .slice BA bl bc, .slice WA wl wc, .int .i64 ra, .int .i64 rn, .int .i64 co, .int .i64 ob] := by
    have h : WholeV (w.alloc (.cells #[.int .i64 16, .int .i64 at_, .int .i64 n, .int .u16 v, .int .u16 an, .int .u16 orr, .slice BA bl bc, .slice WA wl wc, .int .i64 ra, .int .i64 rn, .int .i64 co, .int .i64 ob] 26)) w.heap.size 26 [.int .i64 16, .int .i64 at_, .int .i64 n, .int .u16 v, .int .u16 an, .int .u16 orr, .slice BA bl bc, .slice WA wl wc, .int .i64 ra, .int .i64 rn, .int .i64 co, .int .i64 ob] := heap_alloc_new w _
    exact h.below ((Below.refl _ _).alloc (Nat.le_refl _) _) (by simp)
  have HKW := Lib.hid hkw
  have HR := Lib.hid hR
  have HA := Lib.hid hA
  clear hkw hR hA
  go_enter Try.func51, Try.ntmps51
  go_wp2_with fail
  refine (right_litE 16 at_ n v an orr bl wl ra rn co ob BA WA bc wc _ true H1.out).mono ?_
  rintro e w1 ⟨rfl, hb1⟩
  have h1 := HR.out.below hb1 HR.out.lt
  have h3 := HA.out.below hb1 HA.out.lt
  have hy1 : w.heap.size + 1 < w1.heap.size := h1.lt
  obtain ⟨aa0, aa1, aa2, aa3, aa4, aa5, aa6, aa7, aa8, aa9, aa10, aa11⟩ := cells12e h3
  obtain ⟨rr0, rr1, rr2, rr3, rr4, rr5, rr6, rr7, rr8, rr9, rr10, rr11, rr12, rr13⟩ := cells14 h1
  have fa0 := h1.frozen 0
  have fa1 := h1.frozen 1
  have fa2 := h1.frozen 2
  have fa3 := h1.frozen 3
  have fa4 := h1.frozen 4
  have fa5 := h1.frozen 5
  have fa6 := h1.frozen 6
  have fa7 := h1.frozen 7
  have fa8 := h1.frozen 8
  have fa9 := h1.frozen 9
  have fa10 := h1.frozen 10
  have fa11 := h1.frozen 11
  have fa12 := h1.frozen 12
  have fa13 := h1.frozen 13
  have HB1 := Lib.hid (HKW.out.trans (hb1.mono HKW.out.size))
  have HR1 := Lib.hid h1
  clear hb1 h1 h3
  go_wp2_with fail
  obtain ⟨w9, hw9⟩ : ∃ w9, ((((((((((((((w1.setCell ⟨w.heap.size + 1, 0, none⟩ (.int .i64 16)).setCell ⟨w.heap.size + 1, 1, none⟩ (.int .i64 0)).setCell ⟨w.heap.size + 1, 2, none⟩ (.slice none 0 0)).setCell ⟨w.heap.size + 1, 3, none⟩ (.slice none 0 0)).setCell ⟨w.heap.size + 1, 4, none⟩ (.int .i64 at_)).setCell ⟨w.heap.size + 1, 5, none⟩ (.int .i64 n)).setCell ⟨w.heap.size + 1, 6, none⟩ (.int .u16 0)).setCell ⟨w.heap.size + 1, 7, none⟩ (.int .u16 0)).setCell ⟨w.heap.size + 1, 8, none⟩ (.int .u16 0)).setCell ⟨w.heap.size + 1, 9, none⟩ (.int .i64 0)).setCell ⟨w.heap.size + 1, 10, none⟩ (.int .i64 0)).setCell ⟨w.heap.size + 1, 11, none⟩ (.bool false)).setCell ⟨w.heap.size + 1, 12, none⟩ (.int .i64 0)).setCell ⟨w.heap.size + 1, 13, none⟩ (.slice none 0 0)) = w9 := ⟨_, rfl⟩
  have hwh := all14 HR1.out (.int .i64 16) (.int .i64 0) (.slice none 0 0) (.slice none 0 0) (.int .i64 at_) (.int .i64 n) (.int .u16 0) (.int .u16 0) (.int .u16 0) (.int .i64 0) (.int .i64 0) (.bool false) (.int .i64 0) (.slice none 0 0) rfl
  rw [hw9] at hwh
  have hbb : Below w.heap.size w w9 := by
    rw [← hw9]
    exact ((((((((((((((HB1.out.setCell (p := ⟨w.heap.size + 1, 0, none⟩) (Nat.le_succ _) _).setCell (p := ⟨w.heap.size + 1, 1, none⟩) (Nat.le_succ _) _).setCell (p := ⟨w.heap.size + 1, 2, none⟩) (Nat.le_succ _) _).setCell (p := ⟨w.heap.size + 1, 3, none⟩) (Nat.le_succ _) _).setCell (p := ⟨w.heap.size + 1, 4, none⟩) (Nat.le_succ _) _).setCell (p := ⟨w.heap.size + 1, 5, none⟩) (Nat.le_succ _) _).setCell (p := ⟨w.heap.size + 1, 6, none⟩) (Nat.le_succ _) _).setCell (p := ⟨w.heap.size + 1, 7, none⟩) (Nat.le_succ _) _).setCell (p := ⟨w.heap.size + 1, 8, none⟩) (Nat.le_succ _) _).setCell (p := ⟨w.heap.size + 1, 9, none⟩) (Nat.le_succ _) _).setCell (p := ⟨w.heap.size + 1, 10, none⟩) (Nat.le_succ _) _).setCell (p := ⟨w.heap.size + 1, 11, none⟩) (Nat.le_succ _) _).setCell (p := ⟨w.heap.size + 1, 12, none⟩) (Nat.le_succ _) _).setCell (p := ⟨w.heap.size + 1, 13, none⟩) (Nat.le_succ _) _)
  rw [hw9]
  obtain ⟨he0, he1, he2, he3, he4, he5, he6, he7, he8, he9, he10, he11, he12, he13⟩ := cells14 hwh
  exact bodyPost_ret (v := .agg #[.int .i64 16, .int .i64 0, .slice none 0 0, .slice none 0 0, .int .i64 at_, .int .i64 n, .int .u16 0, .int .u16 0, .int .u16 0, .int .i64 0, .int .i64 0, .bool false, .int .i64 0, .slice none 0 0]) (by simp [results, Try.results51, go_sem, he0, he1, he2, he3, he4, he5, he6, he7, he8, he9, he10, he11, he12, he13]) rfl ⟨rfl, hbb⟩

set_option maxRecDepth 100000 in
set_option maxHeartbeats 1000000 in
theorem recho_22 (at_ n v an orr : Int) (bl wl : Nat) (ra rn co ob : Int) (BA WA : Option Addr) (bc wc : Nat) (w : World) (h : rightP 22 at_ n v an orr bl wl ra rn co ob) :
    Calls Try.prog 51 #[.agg #[.int .i64 22, .int .i64 at_, .int .i64 n, .int .u16 v, .int .u16 an, .int .u16 orr, .slice BA bl bc, .slice WA wl wc, .int .i64 ra, .int .i64 rn, .int .i64 co, .int .i64 ob]] w fun e w' => e = .returned (.agg #[.int .i64 22, .int .i64 0, .slice none 0 0, .slice none 0 0, .int .i64 at_, .int .i64 0, .int .u16 0, .int .u16 an, .int .u16 orr, .int .i64 0, .int .i64 0, .bool false, .int .i64 0, .slice none 0 0]) ∧ Below w.heap.size w w' := by
  have H1 := Lib.hid (decide_eq_true h)
  clear h
  have hkw : Below w.heap.size w ((w.alloc (.cells #[.int .i64 22, .int .i64 at_, .int .i64 n, .int .u16 v, .int .u16 an, .int .u16 orr, .slice BA bl bc, .slice WA wl wc, .int .i64 ra, .int .i64 rn, .int .i64 co, .int .i64 ob] 26)).alloc (.cells #[.int .i64 0, .int .i64 0, .slice none 0 0, .slice none 0 0, .int .i64 0, .int .i64 0, .int .u16 0, .int .u16 0, .int .u16 0, .int .i64 0, .int .i64 0, .bool false, .int .i64 0, .slice none 0 0] 64)) := ((Below.refl _ _).alloc (Nat.le_refl _) _).alloc (by simp) _
  have hR : WholeV ((w.alloc (.cells #[.int .i64 22, .int .i64 at_, .int .i64 n, .int .u16 v, .int .u16 an, .int .u16 orr, .slice BA bl bc, .slice WA wl wc, .int .i64 ra, .int .i64 rn, .int .i64 co, .int .i64 ob] 26)).alloc (.cells #[.int .i64 0, .int .i64 0, .slice none 0 0, .slice none 0 0, .int .i64 0, .int .i64 0, .int .u16 0, .int .u16 0, .int .u16 0, .int .i64 0, .int .i64 0, .bool false, .int .i64 0, .slice none 0 0] 64)) (w.heap.size + 1) 64 [.int .i64 0, .int .i64 0, .slice none 0 0, .slice none 0 0, .int .i64 0, .int .i64 0, .int .u16 0, .int .u16 0, .int .u16 0, .int .i64 0, .int .i64 0, .bool false, .int .i64 0, .slice none 0 0] := by
    have h := heap_alloc_new (w.alloc (.cells #[.int .i64 22, .int .i64 at_, .int .i64 n, .int .u16 v, .int .u16 an, .int .u16 orr, .slice BA bl bc, .slice WA wl wc, .int .i64 ra, .int .i64 rn, .int .i64 co, .int .i64 ob] 26)) (.cells #[.int .i64 0, .int .i64 0, .slice none 0 0, .slice none 0 0, .int .i64 0, .int .i64 0, .int .u16 0, .int .u16 0, .int .u16 0, .int .i64 0, .int .i64 0, .bool false, .int .i64 0, .slice none 0 0] 64)
    rwa [show (w.alloc (.cells #[.int .i64 22, .int .i64 at_, .int .i64 n, .int .u16 v, .int .u16 an, .int .u16 orr, .slice BA bl bc, .slice WA wl wc, .int .i64 ra, .int .i64 rn, .int .i64 co, .int .i64 ob] 26)).heap.size = w.heap.size + 1 by simp] at h
  have hA : WholeV ((w.alloc (.cells #[.int .i64 22, .int .i64 at_, .int .i64 n, .int .u16 v, .int .u16 an, .int .u16 orr, .slice BA bl bc, .slice WA wl wc, .int .i64 ra, .int .i64 rn, .int .i64 co, .int .i64 ob] 26)).alloc (.cells #[.int .i64 0, .int .i64 0, .slice none 0 0, .slice none 0 0, .int .i64 0, .int .i64 0, .int .u16 0, .int .u16 0, .int .u16 0, .int .i64 0, .int .i64 0, .bool false, .int .i64 0, .slice none 0 0] 64)) w.heap.size 26 [.int .i64 22, .int .i64 at_, .int .i64 n, .int .u16 v, .int .u16 an, .int .u16 orr, .slice BA bl bc, .slice WA wl wc, .int .i64 ra, .int .i64 rn, .int .i64 co, .int .i64 ob] := by
    have h : WholeV (w.alloc (.cells #[.int .i64 22, .int .i64 at_, .int .i64 n, .int .u16 v, .int .u16 an, .int .u16 orr, .slice BA bl bc, .slice WA wl wc, .int .i64 ra, .int .i64 rn, .int .i64 co, .int .i64 ob] 26)) w.heap.size 26 [.int .i64 22, .int .i64 at_, .int .i64 n, .int .u16 v, .int .u16 an, .int .u16 orr, .slice BA bl bc, .slice WA wl wc, .int .i64 ra, .int .i64 rn, .int .i64 co, .int .i64 ob] := heap_alloc_new w _
    exact h.below ((Below.refl _ _).alloc (Nat.le_refl _) _) (by simp)
  have HKW := Lib.hid hkw
  have HR := Lib.hid hR
  have HA := Lib.hid hA
  clear hkw hR hA
  go_enter Try.func51, Try.ntmps51
  go_wp2_with fail
  refine (right_litE 22 at_ n v an orr bl wl ra rn co ob BA WA bc wc _ true H1.out).mono ?_
  rintro e w1 ⟨rfl, hb1⟩
  have h1 := HR.out.below hb1 HR.out.lt
  have h3 := HA.out.below hb1 HA.out.lt
  have hy1 : w.heap.size + 1 < w1.heap.size := h1.lt
  obtain ⟨aa0, aa1, aa2, aa3, aa4, aa5, aa6, aa7, aa8, aa9, aa10, aa11⟩ := cells12e h3
  obtain ⟨rr0, rr1, rr2, rr3, rr4, rr5, rr6, rr7, rr8, rr9, rr10, rr11, rr12, rr13⟩ := cells14 h1
  have fa0 := h1.frozen 0
  have fa1 := h1.frozen 1
  have fa2 := h1.frozen 2
  have fa3 := h1.frozen 3
  have fa4 := h1.frozen 4
  have fa5 := h1.frozen 5
  have fa6 := h1.frozen 6
  have fa7 := h1.frozen 7
  have fa8 := h1.frozen 8
  have fa9 := h1.frozen 9
  have fa10 := h1.frozen 10
  have fa11 := h1.frozen 11
  have fa12 := h1.frozen 12
  have fa13 := h1.frozen 13
  have HB1 := Lib.hid (HKW.out.trans (hb1.mono HKW.out.size))
  have HR1 := Lib.hid h1
  clear hb1 h1 h3
  go_wp2_with fail
  obtain ⟨w9, hw9⟩ : ∃ w9, ((((((((((((((w1.setCell ⟨w.heap.size + 1, 0, none⟩ (.int .i64 22)).setCell ⟨w.heap.size + 1, 1, none⟩ (.int .i64 0)).setCell ⟨w.heap.size + 1, 2, none⟩ (.slice none 0 0)).setCell ⟨w.heap.size + 1, 3, none⟩ (.slice none 0 0)).setCell ⟨w.heap.size + 1, 4, none⟩ (.int .i64 at_)).setCell ⟨w.heap.size + 1, 5, none⟩ (.int .i64 0)).setCell ⟨w.heap.size + 1, 6, none⟩ (.int .u16 0)).setCell ⟨w.heap.size + 1, 7, none⟩ (.int .u16 an)).setCell ⟨w.heap.size + 1, 8, none⟩ (.int .u16 orr)).setCell ⟨w.heap.size + 1, 9, none⟩ (.int .i64 0)).setCell ⟨w.heap.size + 1, 10, none⟩ (.int .i64 0)).setCell ⟨w.heap.size + 1, 11, none⟩ (.bool false)).setCell ⟨w.heap.size + 1, 12, none⟩ (.int .i64 0)).setCell ⟨w.heap.size + 1, 13, none⟩ (.slice none 0 0)) = w9 := ⟨_, rfl⟩
  have hwh := all14 HR1.out (.int .i64 22) (.int .i64 0) (.slice none 0 0) (.slice none 0 0) (.int .i64 at_) (.int .i64 0) (.int .u16 0) (.int .u16 an) (.int .u16 orr) (.int .i64 0) (.int .i64 0) (.bool false) (.int .i64 0) (.slice none 0 0) rfl
  rw [hw9] at hwh
  have hbb : Below w.heap.size w w9 := by
    rw [← hw9]
    exact ((((((((((((((HB1.out.setCell (p := ⟨w.heap.size + 1, 0, none⟩) (Nat.le_succ _) _).setCell (p := ⟨w.heap.size + 1, 1, none⟩) (Nat.le_succ _) _).setCell (p := ⟨w.heap.size + 1, 2, none⟩) (Nat.le_succ _) _).setCell (p := ⟨w.heap.size + 1, 3, none⟩) (Nat.le_succ _) _).setCell (p := ⟨w.heap.size + 1, 4, none⟩) (Nat.le_succ _) _).setCell (p := ⟨w.heap.size + 1, 5, none⟩) (Nat.le_succ _) _).setCell (p := ⟨w.heap.size + 1, 6, none⟩) (Nat.le_succ _) _).setCell (p := ⟨w.heap.size + 1, 7, none⟩) (Nat.le_succ _) _).setCell (p := ⟨w.heap.size + 1, 8, none⟩) (Nat.le_succ _) _).setCell (p := ⟨w.heap.size + 1, 9, none⟩) (Nat.le_succ _) _).setCell (p := ⟨w.heap.size + 1, 10, none⟩) (Nat.le_succ _) _).setCell (p := ⟨w.heap.size + 1, 11, none⟩) (Nat.le_succ _) _).setCell (p := ⟨w.heap.size + 1, 12, none⟩) (Nat.le_succ _) _).setCell (p := ⟨w.heap.size + 1, 13, none⟩) (Nat.le_succ _) _)
  rw [hw9]
  obtain ⟨he0, he1, he2, he3, he4, he5, he6, he7, he8, he9, he10, he11, he12, he13⟩ := cells14 hwh
  exact bodyPost_ret (v := .agg #[.int .i64 22, .int .i64 0, .slice none 0 0, .slice none 0 0, .int .i64 at_, .int .i64 0, .int .u16 0, .int .u16 an, .int .u16 orr, .int .i64 0, .int .i64 0, .bool false, .int .i64 0, .slice none 0 0]) (by simp [results, Try.results51, go_sem, he0, he1, he2, he3, he4, he5, he6, he7, he8, he9, he10, he11, he12, he13]) rfl ⟨rfl, hbb⟩

set_option maxRecDepth 100000 in
set_option maxHeartbeats 1000000 in
theorem recho_1 (at_ n v an orr : Int) (bl wl : Nat) (ra rn co ob : Int) (BA WA : Option Addr) (bc wc : Nat) (w : World) (h : rightP 1 at_ n v an orr bl wl ra rn co ob) :
    Calls Try.prog 51 #[.agg #[.int .i64 1, .int .i64 at_, .int .i64 n, .int .u16 v, .int .u16 an, .int .u16 orr, .slice BA bl bc, .slice WA wl wc, .int .i64 ra, .int .i64 rn, .int .i64 co, .int .i64 ob]] w fun e w' => e = .returned (.agg #[.int .i64 0, .int .i64 0, .slice none 0 0, .slice none 0 0, .int .i64 0, .int .i64 0, .int .u16 0, .int .u16 0, .int .u16 0, .int .i64 0, .int .i64 0, .bool false, .int .i64 0, .slice none 0 0]) ∧ Below w.heap.size w w' := by
  have H1 := Lib.hid (decide_eq_true h)
  clear h
  have hkw : Below w.heap.size w ((w.alloc (.cells #[.int .i64 1, .int .i64 at_, .int .i64 n, .int .u16 v, .int .u16 an, .int .u16 orr, .slice BA bl bc, .slice WA wl wc, .int .i64 ra, .int .i64 rn, .int .i64 co, .int .i64 ob] 26)).alloc (.cells #[.int .i64 0, .int .i64 0, .slice none 0 0, .slice none 0 0, .int .i64 0, .int .i64 0, .int .u16 0, .int .u16 0, .int .u16 0, .int .i64 0, .int .i64 0, .bool false, .int .i64 0, .slice none 0 0] 64)) := ((Below.refl _ _).alloc (Nat.le_refl _) _).alloc (by simp) _
  have hR : WholeV ((w.alloc (.cells #[.int .i64 1, .int .i64 at_, .int .i64 n, .int .u16 v, .int .u16 an, .int .u16 orr, .slice BA bl bc, .slice WA wl wc, .int .i64 ra, .int .i64 rn, .int .i64 co, .int .i64 ob] 26)).alloc (.cells #[.int .i64 0, .int .i64 0, .slice none 0 0, .slice none 0 0, .int .i64 0, .int .i64 0, .int .u16 0, .int .u16 0, .int .u16 0, .int .i64 0, .int .i64 0, .bool false, .int .i64 0, .slice none 0 0] 64)) (w.heap.size + 1) 64 [.int .i64 0, .int .i64 0, .slice none 0 0, .slice none 0 0, .int .i64 0, .int .i64 0, .int .u16 0, .int .u16 0, .int .u16 0, .int .i64 0, .int .i64 0, .bool false, .int .i64 0, .slice none 0 0] := by
    have h := heap_alloc_new (w.alloc (.cells #[.int .i64 1, .int .i64 at_, .int .i64 n, .int .u16 v, .int .u16 an, .int .u16 orr, .slice BA bl bc, .slice WA wl wc, .int .i64 ra, .int .i64 rn, .int .i64 co, .int .i64 ob] 26)) (.cells #[.int .i64 0, .int .i64 0, .slice none 0 0, .slice none 0 0, .int .i64 0, .int .i64 0, .int .u16 0, .int .u16 0, .int .u16 0, .int .i64 0, .int .i64 0, .bool false, .int .i64 0, .slice none 0 0] 64)
    rwa [show (w.alloc (.cells #[.int .i64 1, .int .i64 at_, .int .i64 n, .int .u16 v, .int .u16 an, .int .u16 orr, .slice BA bl bc, .slice WA wl wc, .int .i64 ra, .int .i64 rn, .int .i64 co, .int .i64 ob] 26)).heap.size = w.heap.size + 1 by simp] at h
  have hA : WholeV ((w.alloc (.cells #[.int .i64 1, .int .i64 at_, .int .i64 n, .int .u16 v, .int .u16 an, .int .u16 orr, .slice BA bl bc, .slice WA wl wc, .int .i64 ra, .int .i64 rn, .int .i64 co, .int .i64 ob] 26)).alloc (.cells #[.int .i64 0, .int .i64 0, .slice none 0 0, .slice none 0 0, .int .i64 0, .int .i64 0, .int .u16 0, .int .u16 0, .int .u16 0, .int .i64 0, .int .i64 0, .bool false, .int .i64 0, .slice none 0 0] 64)) w.heap.size 26 [.int .i64 1, .int .i64 at_, .int .i64 n, .int .u16 v, .int .u16 an, .int .u16 orr, .slice BA bl bc, .slice WA wl wc, .int .i64 ra, .int .i64 rn, .int .i64 co, .int .i64 ob] := by
    have h : WholeV (w.alloc (.cells #[.int .i64 1, .int .i64 at_, .int .i64 n, .int .u16 v, .int .u16 an, .int .u16 orr, .slice BA bl bc, .slice WA wl wc, .int .i64 ra, .int .i64 rn, .int .i64 co, .int .i64 ob] 26)) w.heap.size 26 [.int .i64 1, .int .i64 at_, .int .i64 n, .int .u16 v, .int .u16 an, .int .u16 orr, .slice BA bl bc, .slice WA wl wc, .int .i64 ra, .int .i64 rn, .int .i64 co, .int .i64 ob] := heap_alloc_new w _
    exact h.below ((Below.refl _ _).alloc (Nat.le_refl _) _) (by simp)
  have HKW := Lib.hid hkw
  have HR := Lib.hid hR
  have HA := Lib.hid hA
  clear hkw hR hA
  go_enter Try.func51, Try.ntmps51
  go_wp2_with fail
  refine (right_litE 1 at_ n v an orr bl wl ra rn co ob BA WA bc wc _ true H1.out).mono ?_
  rintro e w1 ⟨rfl, hb1⟩
  have h1 := HR.out.below hb1 HR.out.lt
  have h3 := HA.out.below hb1 HA.out.lt
  have hy1 : w.heap.size + 1 < w1.heap.size := h1.lt
  obtain ⟨aa0, aa1, aa2, aa3, aa4, aa5, aa6, aa7, aa8, aa9, aa10, aa11⟩ := cells12e h3
  obtain ⟨rr0, rr1, rr2, rr3, rr4, rr5, rr6, rr7, rr8, rr9, rr10, rr11, rr12, rr13⟩ := cells14 h1
  have fa0 := h1.frozen 0
  have fa1 := h1.frozen 1
  have fa2 := h1.frozen 2
  have fa3 := h1.frozen 3
  have fa4 := h1.frozen 4
  have fa5 := h1.frozen 5
  have fa6 := h1.frozen 6
  have fa7 := h1.frozen 7
  have fa8 := h1.frozen 8
  have fa9 := h1.frozen 9
  have fa10 := h1.frozen 10
  have fa11 := h1.frozen 11
  have fa12 := h1.frozen 12
  have fa13 := h1.frozen 13
  have HB1 := Lib.hid (HKW.out.trans (hb1.mono HKW.out.size))
  have HR1 := Lib.hid h1
  clear hb1 h1 h3
  go_wp2_with fail
  obtain ⟨w9, hw9⟩ : ∃ w9, ((((((((((((((w1.setCell ⟨w.heap.size + 1, 0, none⟩ (.int .i64 0)).setCell ⟨w.heap.size + 1, 1, none⟩ (.int .i64 0)).setCell ⟨w.heap.size + 1, 2, none⟩ (.slice none 0 0)).setCell ⟨w.heap.size + 1, 3, none⟩ (.slice none 0 0)).setCell ⟨w.heap.size + 1, 4, none⟩ (.int .i64 0)).setCell ⟨w.heap.size + 1, 5, none⟩ (.int .i64 0)).setCell ⟨w.heap.size + 1, 6, none⟩ (.int .u16 0)).setCell ⟨w.heap.size + 1, 7, none⟩ (.int .u16 0)).setCell ⟨w.heap.size + 1, 8, none⟩ (.int .u16 0)).setCell ⟨w.heap.size + 1, 9, none⟩ (.int .i64 0)).setCell ⟨w.heap.size + 1, 10, none⟩ (.int .i64 0)).setCell ⟨w.heap.size + 1, 11, none⟩ (.bool false)).setCell ⟨w.heap.size + 1, 12, none⟩ (.int .i64 0)).setCell ⟨w.heap.size + 1, 13, none⟩ (.slice none 0 0)) = w9 := ⟨_, rfl⟩
  have hwh := all14 HR1.out (.int .i64 0) (.int .i64 0) (.slice none 0 0) (.slice none 0 0) (.int .i64 0) (.int .i64 0) (.int .u16 0) (.int .u16 0) (.int .u16 0) (.int .i64 0) (.int .i64 0) (.bool false) (.int .i64 0) (.slice none 0 0) rfl
  rw [hw9] at hwh
  have hbb : Below w.heap.size w w9 := by
    rw [← hw9]
    exact ((((((((((((((HB1.out.setCell (p := ⟨w.heap.size + 1, 0, none⟩) (Nat.le_succ _) _).setCell (p := ⟨w.heap.size + 1, 1, none⟩) (Nat.le_succ _) _).setCell (p := ⟨w.heap.size + 1, 2, none⟩) (Nat.le_succ _) _).setCell (p := ⟨w.heap.size + 1, 3, none⟩) (Nat.le_succ _) _).setCell (p := ⟨w.heap.size + 1, 4, none⟩) (Nat.le_succ _) _).setCell (p := ⟨w.heap.size + 1, 5, none⟩) (Nat.le_succ _) _).setCell (p := ⟨w.heap.size + 1, 6, none⟩) (Nat.le_succ _) _).setCell (p := ⟨w.heap.size + 1, 7, none⟩) (Nat.le_succ _) _).setCell (p := ⟨w.heap.size + 1, 8, none⟩) (Nat.le_succ _) _).setCell (p := ⟨w.heap.size + 1, 9, none⟩) (Nat.le_succ _) _).setCell (p := ⟨w.heap.size + 1, 10, none⟩) (Nat.le_succ _) _).setCell (p := ⟨w.heap.size + 1, 11, none⟩) (Nat.le_succ _) _).setCell (p := ⟨w.heap.size + 1, 12, none⟩) (Nat.le_succ _) _).setCell (p := ⟨w.heap.size + 1, 13, none⟩) (Nat.le_succ _) _)
  rw [hw9]
  obtain ⟨he0, he1, he2, he3, he4, he5, he6, he7, he8, he9, he10, he11, he12, he13⟩ := cells14 hwh
  exact bodyPost_ret (v := .agg #[.int .i64 0, .int .i64 0, .slice none 0 0, .slice none 0 0, .int .i64 0, .int .i64 0, .int .u16 0, .int .u16 0, .int .u16 0, .int .i64 0, .int .i64 0, .bool false, .int .i64 0, .slice none 0 0]) (by simp [results, Try.results51, go_sem, he0, he1, he2, he3, he4, he5, he6, he7, he8, he9, he10, he11, he12, he13]) rfl ⟨rfl, hbb⟩

set_option maxRecDepth 100000 in
set_option maxHeartbeats 1000000 in
theorem recho_2 (at_ n v an orr : Int) (bl wl : Nat) (ra rn co ob : Int) (BA WA : Option Addr) (bc wc : Nat) (w : World) (h : rightP 2 at_ n v an orr bl wl ra rn co ob) :
    Calls Try.prog 51 #[.agg #[.int .i64 2, .int .i64 at_, .int .i64 n, .int .u16 v, .int .u16 an, .int .u16 orr, .slice BA bl bc, .slice WA wl wc, .int .i64 ra, .int .i64 rn, .int .i64 co, .int .i64 ob]] w fun e w' => e = .returned (.agg #[.int .i64 0, .int .i64 0, .slice none 0 0, .slice none 0 0, .int .i64 0, .int .i64 0, .int .u16 0, .int .u16 0, .int .u16 0, .int .i64 0, .int .i64 0, .bool false, .int .i64 0, .slice none 0 0]) ∧ Below w.heap.size w w' := by
  have H1 := Lib.hid (decide_eq_true h)
  clear h
  have hkw : Below w.heap.size w ((w.alloc (.cells #[.int .i64 2, .int .i64 at_, .int .i64 n, .int .u16 v, .int .u16 an, .int .u16 orr, .slice BA bl bc, .slice WA wl wc, .int .i64 ra, .int .i64 rn, .int .i64 co, .int .i64 ob] 26)).alloc (.cells #[.int .i64 0, .int .i64 0, .slice none 0 0, .slice none 0 0, .int .i64 0, .int .i64 0, .int .u16 0, .int .u16 0, .int .u16 0, .int .i64 0, .int .i64 0, .bool false, .int .i64 0, .slice none 0 0] 64)) := ((Below.refl _ _).alloc (Nat.le_refl _) _).alloc (by simp) _
  have hR : WholeV ((w.alloc (.cells #[.int .i64 2, .int .i64 at_, .int .i64 n, .int .u16 v, .int .u16 an, .int .u16 orr, .slice BA bl bc, .slice WA wl wc, .int .i64 ra, .int .i64 rn, .int .i64 co, .int .i64 ob] 26)).alloc (.cells #[.int .i64 0, .int .i64 0, .slice none 0 0, .slice none 0 0, .int .i64 0, .int .i64 0, .int .u16 0, .int .u16 0, .int .u16 0, .int .i64 0, .int .i64 0, .bool false, .int .i64 0, .slice none 0 0] 64)) (w.heap.size + 1) 64 [.int .i64 0, .int .i64 0, .slice none 0 0, .slice none 0 0, .int .i64 0, .int .i64 0, .int .u16 0, .int .u16 0, .int .u16 0, .int .i64 0, .int .i64 0, .bool false, .int .i64 0, .slice none 0 0] := by
    have h := heap_alloc_new (w.alloc (.cells #[.int .i64 2, .int .i64 at_, .int .i64 n, .int .u16 v, .int .u16 an, .int .u16 orr, .slice BA bl bc, .slice WA wl wc, .int .i64 ra, .int .i64 rn, .int .i64 co, .int .i64 ob] 26)) (.cells #[.int .i64 0, .int .i64 0, .slice none 0 0, .slice none 0 0, .int .i64 0, .int .i64 0, .int .u16 0, .int .u16 0, .int .u16 0, .int .i64 0, .int .i64 0, .bool false, .int .i64 0, .slice none 0 0] 64)
    rwa [show (w.alloc (.cells #[.int .i64 2, .int .i64 at_, .int .i64 n, .int .u16 v, .int .u16 an, .int .u16 orr, .slice BA bl bc, .slice WA wl wc, .int .i64 ra, .int .i64 rn, .int .i64 co, .int .i64 ob] 26)).heap.size = w.heap.size + 1 by simp] at h
  have hA : WholeV ((w.alloc (.cells #[.int .i64 2, .int .i64 at_, .int .i64 n, .int .u16 v, .int .u16 an, .int .u16 orr, .slice BA bl bc, .slice WA wl wc, .int .i64 ra, .int .i64 rn, .int .i64 co, .int .i64 ob] 26)).alloc (.cells #[.int .i64 0, .int .i64 0, .slice none 0 0, .slice none 0 0, .int .i64 0, .int .i64 0, .int .u16 0, .int .u16 0, .int .u16 0, .int .i64 0, .int .i64 0, .bool false, .int .i64 0, .slice none 0 0] 64)) w.heap.size 26 [.int .i64 2, .int .i64 at_, .int .i64 n, .int .u16 v, .int .u16 an, .int .u16 orr, .slice BA bl bc, .slice WA wl wc, .int .i64 ra, .int .i64 rn, .int .i64 co, .int .i64 ob] := by
    have h : WholeV (w.alloc (.cells #[.int .i64 2, .int .i64 at_, .int .i64 n, .int .u16 v, .int .u16 an, .int .u16 orr, .slice BA bl bc, .slice WA wl wc, .int .i64 ra, .int .i64 rn, .int .i64 co, .int .i64 ob] 26)) w.heap.size 26 [.int .i64 2, .int .i64 at_, .int .i64 n, .int .u16 v, .int .u16 an, .int .u16 orr, .slice BA bl bc, .slice WA wl wc, .int .i64 ra, .int .i64 rn, .int .i64 co, .int .i64 ob] := heap_alloc_new w _
    exact h.below ((Below.refl _ _).alloc (Nat.le_refl _) _) (by simp)
  have HKW := Lib.hid hkw
  have HR := Lib.hid hR
  have HA := Lib.hid hA
  clear hkw hR hA
  go_enter Try.func51, Try.ntmps51
  go_wp2_with fail
  refine (right_litE 2 at_ n v an orr bl wl ra rn co ob BA WA bc wc _ true H1.out).mono ?_
  rintro e w1 ⟨rfl, hb1⟩
  have h1 := HR.out.below hb1 HR.out.lt
  have h3 := HA.out.below hb1 HA.out.lt
  have hy1 : w.heap.size + 1 < w1.heap.size := h1.lt
  obtain ⟨aa0, aa1, aa2, aa3, aa4, aa5, aa6, aa7, aa8, aa9, aa10, aa11⟩ := cells12e h3
  obtain ⟨rr0, rr1, rr2, rr3, rr4, rr5, rr6, rr7, rr8, rr9, rr10, rr11, rr12, rr13⟩ := cells14 h1
  have fa0 := h1.frozen 0
  have fa1 := h1.frozen 1
  have fa2 := h1.frozen 2
  have fa3 := h1.frozen 3
  have fa4 := h1.frozen 4
  have fa5 := h1.frozen 5
  have fa6 := h1.frozen 6
  have fa7 := h1.frozen 7
  have fa8 := h1.frozen 8
  have fa9 := h1.frozen 9
  have fa10 := h1.frozen 10
  have fa11 := h1.frozen 11
  have fa12 := h1.frozen 12
  have fa13 := h1.frozen 13
  have HB1 := Lib.hid (HKW.out.trans (hb1.mono HKW.out.size))
  have HR1 := Lib.hid h1
  clear hb1 h1 h3
  go_wp2_with fail
  obtain ⟨w9, hw9⟩ : ∃ w9, ((((((((((((((w1.setCell ⟨w.heap.size + 1, 0, none⟩ (.int .i64 0)).setCell ⟨w.heap.size + 1, 1, none⟩ (.int .i64 0)).setCell ⟨w.heap.size + 1, 2, none⟩ (.slice none 0 0)).setCell ⟨w.heap.size + 1, 3, none⟩ (.slice none 0 0)).setCell ⟨w.heap.size + 1, 4, none⟩ (.int .i64 0)).setCell ⟨w.heap.size + 1, 5, none⟩ (.int .i64 0)).setCell ⟨w.heap.size + 1, 6, none⟩ (.int .u16 0)).setCell ⟨w.heap.size + 1, 7, none⟩ (.int .u16 0)).setCell ⟨w.heap.size + 1, 8, none⟩ (.int .u16 0)).setCell ⟨w.heap.size + 1, 9, none⟩ (.int .i64 0)).setCell ⟨w.heap.size + 1, 10, none⟩ (.int .i64 0)).setCell ⟨w.heap.size + 1, 11, none⟩ (.bool false)).setCell ⟨w.heap.size + 1, 12, none⟩ (.int .i64 0)).setCell ⟨w.heap.size + 1, 13, none⟩ (.slice none 0 0)) = w9 := ⟨_, rfl⟩
  have hwh := all14 HR1.out (.int .i64 0) (.int .i64 0) (.slice none 0 0) (.slice none 0 0) (.int .i64 0) (.int .i64 0) (.int .u16 0) (.int .u16 0) (.int .u16 0) (.int .i64 0) (.int .i64 0) (.bool false) (.int .i64 0) (.slice none 0 0) rfl
  rw [hw9] at hwh
  have hbb : Below w.heap.size w w9 := by
    rw [← hw9]
    exact ((((((((((((((HB1.out.setCell (p := ⟨w.heap.size + 1, 0, none⟩) (Nat.le_succ _) _).setCell (p := ⟨w.heap.size + 1, 1, none⟩) (Nat.le_succ _) _).setCell (p := ⟨w.heap.size + 1, 2, none⟩) (Nat.le_succ _) _).setCell (p := ⟨w.heap.size + 1, 3, none⟩) (Nat.le_succ _) _).setCell (p := ⟨w.heap.size + 1, 4, none⟩) (Nat.le_succ _) _).setCell (p := ⟨w.heap.size + 1, 5, none⟩) (Nat.le_succ _) _).setCell (p := ⟨w.heap.size + 1, 6, none⟩) (Nat.le_succ _) _).setCell (p := ⟨w.heap.size + 1, 7, none⟩) (Nat.le_succ _) _).setCell (p := ⟨w.heap.size + 1, 8, none⟩) (Nat.le_succ _) _).setCell (p := ⟨w.heap.size + 1, 9, none⟩) (Nat.le_succ _) _).setCell (p := ⟨w.heap.size + 1, 10, none⟩) (Nat.le_succ _) _).setCell (p := ⟨w.heap.size + 1, 11, none⟩) (Nat.le_succ _) _).setCell (p := ⟨w.heap.size + 1, 12, none⟩) (Nat.le_succ _) _).setCell (p := ⟨w.heap.size + 1, 13, none⟩) (Nat.le_succ _) _)
  rw [hw9]
  obtain ⟨he0, he1, he2, he3, he4, he5, he6, he7, he8, he9, he10, he11, he12, he13⟩ := cells14 hwh
  exact bodyPost_ret (v := .agg #[.int .i64 0, .int .i64 0, .slice none 0 0, .slice none 0 0, .int .i64 0, .int .i64 0, .int .u16 0, .int .u16 0, .int .u16 0, .int .i64 0, .int .i64 0, .bool false, .int .i64 0, .slice none 0 0]) (by simp [results, Try.results51, go_sem, he0, he1, he2, he3, he4, he5, he6, he7, he8, he9, he10, he11, he12, he13]) rfl ⟨rfl, hbb⟩

set_option maxRecDepth 100000 in
set_option maxHeartbeats 1000000 in
theorem recho_3 (at_ n v an orr : Int) (bl wl : Nat) (ra rn co ob : Int) (BA WA : Option Addr) (bc wc : Nat) (w : World) (h : rightP 3 at_ n v an orr bl wl ra rn co ob) :
    Calls Try.prog 51 #[.agg #[.int .i64 3, .int .i64 at_, .int .i64 n, .int .u16 v, .int .u16 an, .int .u16 orr, .slice BA bl bc, .slice WA wl wc, .int .i64 ra, .int .i64 rn, .int .i64 co, .int .i64 ob]] w fun e w' => e = .returned (.agg #[.int .i64 0, .int .i64 0, .slice none 0 0, .slice none 0 0, .int .i64 0, .int .i64 0, .int .u16 0, .int .u16 0, .int .u16 0, .int .i64 0, .int .i64 0, .bool false, .int .i64 0, .slice none 0 0]) ∧ Below w.heap.size w w' := by
  have H1 := Lib.hid (decide_eq_true h)
  clear h
  have hkw : Below w.heap.size w ((w.alloc (.cells #[.int .i64 3, .int .i64 at_, .int .i64 n, .int .u16 v, .int .u16 an, .int .u16 orr, .slice BA bl bc, .slice WA wl wc, .int .i64 ra, .int .i64 rn, .int .i64 co, .int .i64 ob] 26)).alloc (.cells #[.int .i64 0, .int .i64 0, .slice none 0 0, .slice none 0 0, .int .i64 0, .int .i64 0, .int .u16 0, .int .u16 0, .int .u16 0, .int .i64 0, .int .i64 0, .bool false, .int .i64 0, .slice none 0 0] 64)) := ((Below.refl _ _).alloc (Nat.le_refl _) _).alloc (by simp) _
  have hR : WholeV ((w.alloc (.cells #[.int .i64 3, .int .i64 at_, .int .i64 n, .int .u16 v, .int .u16 an, .int .u16 orr, .slice BA bl bc, .slice WA wl wc, .int .i64 ra, .int .i64 rn, .int .i64 co, .int .i64 ob] 26)).alloc (.cells #[.int .i64 0, .int .i64 0, .slice none 0 0, .slice none 0 0, .int .i64 0, .int .i64 0, .int .u16 0, .int .u16 0, .int .u16 0, .int .i64 0, .int .i64 0, .bool false, .int .i64 0, .slice none 0 0] 64)) (w.heap.size + 1) 64 [.int .i64 0, .int .i64 0, .slice none 0 0, .slice none 0 0, .int .i64 0, .int .i64 0, .int .u16 0, .int .u16 0, .int .u16 0, .int .i64 0, .int .i64 0, .bool false, .int .i64 0, .slice none 0 0] := by
    have h := heap_alloc_new (w.alloc (.cells #[.int .i64 3, .int .i64 at_, .int .i64 n, .int .u16 v, .int .u16 an, .int .u16 orr, .slice BA bl bc, .slice WA wl wc, .int .i64 ra, .int .i64 rn, .int .i64 co, .int .i64 ob] 26)) (.cells #[.int .i64 0, .int .i64 0, .slice none 0 0, .slice none 0 0, .int .i64 0, .int .i64 0, .int .u16 0, .int .u16 0, .int .u16 0, .int .i64 0, .int .i64 0, .bool false, .int .i64 0, .slice none 0 0] 64)
    rwa [show (w.alloc (.cells #[.int .i64 3, .int .i64 at_, .int .i64 n, .int .u16 v, .int .u16 an, .int .u16 orr, .slice BA bl bc, .slice WA wl wc, .int .i64 ra, .int .i64 rn, .int .i64 co, .int .i64 ob] 26)).heap.size = w.heap.size + 1 by simp] at h
  have hA : WholeV ((w.alloc (.cells #[.int .i64 3, .int .i64 at_, .int .i64 n, .int .u16 v, .int .u16 an, .int .u16 orr, .slice BA bl bc, .slice WA wl wc, .int .i64 ra, .int .i64 rn, .int .i64 co, .int .i64 ob] 26)).alloc (.cells #[.int .i64 0, .int .i64 0, .slice none 0 0, .slice none 0 0, .int .i64 0, .int .i64 0, .int .u16 0, .int .u16 0, .int .u16 0, .int .i64 0, .int .i64 0, .bool false, .int .i64 0, .slice none 0 0] 64)) w.heap.size 26 [.int .i64 3, .int .i64 at_, .int .i64 n, .int .u16 v, .int .u16 an, .int .u16 orr, .slice BA bl bc, .slice WA wl wc, .int .i64 ra, .int .i64 rn, .int .i64 co, .int .i64 ob] := by
    have h : WholeV (w.alloc (.cells #[.int .i64 3, .int .i64 at_, .int .i64 n, .int .u16 v, .int .u16 an, .int .u16 orr, .slice BA bl bc, .slice WA wl wc, .int .i64 ra, .int .i64 rn, .int .i64 co, .int .i64 ob] 26)) w.heap.size 26 [.int .i64 3, .int .i64 at_, .int .i64 n, .int .u16 v, .int .u16 an, .int .u16 orr, .slice BA bl bc, .slice WA wl wc, .int .i64 ra, .int .i64 rn, .int .i64 co, .int .i64 ob] := heap_alloc_new w _
    exact h.below ((Below.refl _ _).alloc (Nat.le_refl _) _) (by simp)
  have HKW := Lib.hid hkw
  have HR := Lib.hid hR
  have HA := Lib.hid hA
  clear hkw hR hA
  go_enter Try.func51, Try.ntmps51
  go_wp2_with fail
  refine (right_litE 3 at_ n v an orr bl wl ra rn co ob BA WA bc wc _ true H1.out).mono ?_
  rintro e w1 ⟨rfl, hb1⟩
  have h1 := HR.out.below hb1 HR.out.lt
  have h3 := HA.out.below hb1 HA.out.lt
  have hy1 : w.heap.size + 1 < w1.heap.size := h1.lt
  obtain ⟨aa0, aa1, aa2, aa3, aa4, aa5, aa6, aa7, aa8, aa9, aa10, aa11⟩ := cells12e h3
  obtain ⟨rr0, rr1, rr2, rr3, rr4, rr5, rr6, rr7, rr8, rr9, rr10, rr11, rr12, rr13⟩ := cells14 h1
  have fa0 := h1.frozen 0
  have fa1 := h1.frozen 1
  have fa2 := h1.frozen 2
  have fa3 := h1.frozen 3
  have fa4 := h1.frozen 4
  have fa5 := h1.frozen 5
  have fa6 := h1.frozen 6
  have fa7 := h1.frozen 7
  have fa8 := h1.frozen 8
  have fa9 := h1.frozen 9
  have fa10 := h1.frozen 10
  have fa11 := h1.frozen 11
  have fa12 := h1.frozen 12
  have fa13 := h1.frozen 13
  have HB1 := Lib.hid (HKW.out.trans (hb1.mono HKW.out.size))
  have HR1 := Lib.hid h1
  clear hb1 h1 h3
  go_wp2_with fail
  obtain ⟨w9, hw9⟩ : ∃ w9, ((((((((((((((w1.setCell ⟨w.heap.size + 1, 0, none⟩ (.int .i64 0)).setCell ⟨w.heap.size + 1, 1, none⟩ (.int .i64 0)).setCell ⟨w.heap.size + 1, 2, none⟩ (.slice none 0 0)).setCell ⟨w.heap.size + 1, 3, none⟩ (.slice none 0 0)).setCell ⟨w.heap.size + 1, 4, none⟩ (.int .i64 0)).setCell ⟨w.heap.size + 1, 5, none⟩ (.int .i64 0)).setCell ⟨w.heap.size + 1, 6, none⟩ (.int .u16 0)).setCell ⟨w.heap.size + 1, 7, none⟩ (.int .u16 0)).setCell ⟨w.heap.size + 1, 8, none⟩ (.int .u16 0)).setCell ⟨w.heap.size + 1, 9, none⟩ (.int .i64 0)).setCell ⟨w.heap.size + 1, 10, none⟩ (.int .i64 0)).setCell ⟨w.heap.size + 1, 11, none⟩ (.bool false)).setCell ⟨w.heap.size + 1, 12, none⟩ (.int .i64 0)).setCell ⟨w.heap.size + 1, 13, none⟩ (.slice none 0 0)) = w9 := ⟨_, rfl⟩
  have hwh := all14 HR1.out (.int .i64 0) (.int .i64 0) (.slice none 0 0) (.slice none 0 0) (.int .i64 0) (.int .i64 0) (.int .u16 0) (.int .u16 0) (.int .u16 0) (.int .i64 0) (.int .i64 0) (.bool false) (.int .i64 0) (.slice none 0 0) rfl
  rw [hw9] at hwh
  have hbb : Below w.heap.size w w9 := by
    rw [← hw9]
    exact ((((((((((((((HB1.out.setCell (p := ⟨w.heap.size + 1, 0, none⟩) (Nat.le_succ _) _).setCell (p := ⟨w.heap.size + 1, 1, none⟩) (Nat.le_succ _) _).setCell (p := ⟨w.heap.size + 1, 2, none⟩) (Nat.le_succ _) _).setCell (p := ⟨w.heap.size + 1, 3, none⟩) (Nat.le_succ _) _).setCell (p := ⟨w.heap.size + 1, 4, none⟩) (Nat.le_succ _) _).setCell (p := ⟨w.heap.size + 1, 5, none⟩) (Nat.le_succ _) _).setCell (p := ⟨w.heap.size + 1, 6, none⟩) (Nat.le_succ _) _).setCell (p := ⟨w.heap.size + 1, 7, none⟩) (Nat.le_succ _) _).setCell (p := ⟨w.heap.size + 1, 8, none⟩) (Nat.le_succ _) _).setCell (p := ⟨w.heap.size + 1, 9, none⟩) (Nat.le_succ _) _).setCell (p := ⟨w.heap.size + 1, 10, none⟩) (Nat.le_succ _) _).setCell (p := ⟨w.heap.size + 1, 11, none⟩) (Nat.le_succ _) _).setCell (p := ⟨w.heap.size + 1, 12, none⟩) (Nat.le_succ _) _).setCell (p := ⟨w.heap.size + 1, 13, none⟩) (Nat.le_succ _) _)
  rw [hw9]
  obtain ⟨he0, he1, he2, he3, he4, he5, he6, he7, he8, he9, he10, he11, he12, he13⟩ := cells14 hwh
  exact bodyPost_ret (v := .agg #[.int .i64 0, .int .i64 0, .slice none 0 0, .slice none 0 0, .int .i64 0, .int .i64 0, .int .u16 0, .int .u16 0, .int .u16 0, .int .i64 0, .int .i64 0, .bool false, .int .i64 0, .slice none 0 0]) (by simp [results, Try.results51, go_sem, he0, he1, he2, he3, he4, he5, he6, he7, he8, he9, he10, he11, he12, he13]) rfl ⟨rfl, hbb⟩

set_option maxRecDepth 100000 in
set_option maxHeartbeats 1000000 in
theorem recho_4 (at_ n v an orr : Int) (bl wl : Nat) (ra rn co ob : Int) (BA WA : Option Addr) (bc wc : Nat) (w : World) (h : rightP 4 at_ n v an orr bl wl ra rn co ob) :
    Calls Try.prog 51 #[.agg #[.int .i64 4, .int .i64 at_, .int .i64 n, .int .u16 v, .int .u16 an, .int .u16 orr, .slice BA bl bc, .slice WA wl wc, .int .i64 ra, .int .i64 rn, .int .i64 co, .int .i64 ob]] w fun e w' => e = .returned (.agg #[.int .i64 0, .int .i64 0, .slice none 0 0, .slice none 0 0, .int .i64 0, .int .i64 0, .int .u16 0, .int .u16 0, .int .u16 0, .int .i64 0, .int .i64 0, .bool false, .int .i64 0, .slice none 0 0]) ∧ Below w.heap.size w w' := by
  have H1 := Lib.hid (decide_eq_true h)
  clear h
  have hkw : Below w.heap.size w ((w.alloc (.cells #[.int .i64 4, .int .i64 at_, .int .i64 n, .int .u16 v, .int .u16 an, .int .u16 orr, .slice BA bl bc, .slice WA wl wc, .int .i64 ra, .int .i64 rn, .int .i64 co, .int .i64 ob] 26)).alloc (.cells #[.int .i64 0, .int .i64 0, .slice none 0 0, .slice none 0 0, .int .i64 0, .int .i64 0, .int .u16 0, .int .u16 0, .int .u16 0, .int .i64 0, .int .i64 0, .bool false, .int .i64 0, .slice none 0 0] 64)) := ((Below.refl _ _).alloc (Nat.le_refl _) _).alloc (by simp) _
  have hR : WholeV ((w.alloc (.cells #[.int .i64 4, .int .i64 at_, .int .i64 n, .int .u16 v, .int .u16 an, .int .u16 orr, .slice BA bl bc, .slice WA wl wc, .int .i64 ra, .int .i64 rn, .int .i64 co, .int .i64 ob] 26)).alloc (.cells #[.int .i64 0, .int .i64 0, .slice none 0 0, .slice none 0 0, .int .i64 0, .int .i64 0, .int .u16 0, .int .u16 0, .int .u16 0, .int .i64 0, .int .i64 0, .bool false, .int .i64 0, .slice none 0 0] 64)) (w.heap.size + 1) 64 [.int .i64 0, .int .i64 0, .slice none 0 0, .slice none 0 0, .int .i64 0, .int .i64 0, .int .u16 0, .int .u16 0, .int .u16 0, .int .i64 0, .int .i64 0, .bool false, .int .i64 0, .slice none 0 0] := by
    have h := heap_alloc_new (w.alloc (.cells #[.int .i64 4, .int .i64 at_, .int .i64 n, .int .u16 v, .int .u16 an, .int .u16 orr, .slice BA bl bc, .slice WA wl wc, .int .i64 ra, .int .i64 rn, .int .i64 co, .int .i64 ob] 26)) (.cells #[.int .i64 0, .int .i64 0, .slice none 0 0, .slice none 0 0, .int .i64 0, .int .i64 0, .int .u16 0, .int .u16 0, .int .u16 0, .int .i64 0, .int .i64 0, .bool false, .int .i64 0, .slice none 0 0] 64)
    rwa [show (w.alloc (.cells #[.int .i64 4, .int .i64 at_, .int .i64 n, .int .u16 v, .int .u16 an, .int .u16 orr, .slice BA bl bc, .slice WA wl wc, .int .i64 ra, .int .i64 rn, .int .i64 co, .int .i64 ob] 26)).heap.size = w.heap.size + 1 by simp] at h
  have hA : WholeV ((w.alloc (.cells #[.int .i64 4, .int .i64 at_, .int .i64 n, .int .u16 v, .int .u16 an, .int .u16 orr, .slice BA bl bc, .slice WA wl wc, .int .i64 ra, .int .i64 rn, .int .i64 co, .int .i64 ob] 26)).alloc (.cells #[.int .i64 0, .int .i64 0, .slice none 0 0, .slice none 0 0, .int .i64 0, .int .i64 0, .int .u16 0, .int .u16 0, .int .u16 0, .int .i64 0, .int .i64 0, .bool false, .int .i64 0, .slice none 0 0] 64)) w.heap.size 26 [.int .i64 4, .int .i64 at_, .int .i64 n, .int .u16 v, .int .u16 an, .int .u16 orr, .slice BA bl bc, .slice WA wl wc, .int .i64 ra, .int .i64 rn, .int .i64 co, .int .i64 ob] := by
    have h : WholeV (w.alloc (.cells #[.int .i64 4, .int .i64 at_, .int .i64 n, .int .u16 v, .int .u16 an, .int .u16 orr, .slice BA bl bc, .slice WA wl wc, .int .i64 ra, .int .i64 rn, .int .i64 co, .int .i64 ob] 26)) w.heap.size 26 [.int .i64 4, .int .i64 at_, .int .i64 n, .int .u16 v, .int .u16 an, .int .u16 orr, .slice BA bl bc, .slice WA wl wc, .int .i64 ra, .int .i64 rn, .int .i64 co, .int .i64 ob] := heap_alloc_new w _
    exact h.below ((Below.refl _ _).alloc (Nat.le_refl _) _) (by simp)
  have HKW := Lib.hid hkw
  have HR := Lib.hid hR
  have HA := Lib.hid hA
  clear hkw hR hA
  go_enter Try.func51, Try.ntmps51
  go_wp2_with fail
  refine (right_litE 4 at_ n v an orr bl wl ra rn co ob BA WA bc wc _ true H1.out).mono ?_
  rintro e w1 ⟨rfl, hb1⟩
  have h1 := HR.out.below hb1 HR.out.lt
  have h3 := HA.out.below hb1 HA.out.lt
  have hy1 : w.heap.size + 1 < w1.heap.size := h1.lt
  obtain ⟨aa0, aa1, aa2, aa3, aa4, aa5, aa6, aa7, aa8, aa9, aa10, aa11⟩ := cells12e h3
  obtain ⟨rr0, rr1, rr2, rr3, rr4, rr5, rr6, rr7, rr8, rr9, rr10, rr11, rr12, rr13⟩ := cells14 h1
  have fa0 := h1.frozen 0
  have fa1 := h1.frozen 1
  have fa2 := h1.frozen 2
  have fa3 := h1.frozen 3
  have fa4 := h1.frozen 4
  have fa5 := h1.frozen 5
  have fa6 := h1.frozen 6
  have fa7 := h1.frozen 7
  have fa8 := h1.frozen 8
  have fa9 := h1.frozen 9
  have fa10 := h1.frozen 10
  have fa11 := h1.frozen 11
  have fa12 := h1.frozen 12
  have fa13 := h1.frozen 13
  have HB1 := Lib.hid (HKW.out.trans (hb1.mono HKW.out.size))
  have HR1 := Lib.hid h1
  clear hb1 h1 h3
  go_wp2_with fail
  obtain ⟨w9, hw9⟩ : ∃ w9, ((((((((((((((w1.setCell ⟨w.heap.size + 1, 0, none⟩ (.int .i64 0)).setCell ⟨w.heap.size + 1, 1, none⟩ (.int .i64 0)).setCell ⟨w.heap.size + 1, 2, none⟩ (.slice none 0 0)).setCell ⟨w.heap.size + 1, 3, none⟩ (.slice none 0 0)).setCell ⟨w.heap.size + 1, 4, none⟩ (.int .i64 0)).setCell ⟨w.heap.size + 1, 5, none⟩ (.int .i64 0)).setCell ⟨w.heap.size + 1, 6, none⟩ (.int .u16 0)).setCell ⟨w.heap.size + 1, 7, none⟩ (.int .u16 0)).setCell ⟨w.heap.size + 1, 8, none⟩ (.int .u16 0)).setCell ⟨w.heap.size + 1, 9, none⟩ (.int .i64 0)).setCell ⟨w.heap.size + 1, 10, none⟩ (.int .i64 0)).setCell ⟨w.heap.size + 1, 11, none⟩ (.bool false)).setCell ⟨w.heap.size + 1, 12, none⟩ (.int .i64 0)).setCell ⟨w.heap.size + 1, 13, none⟩ (.slice none 0 0)) = w9 := ⟨_, rfl⟩
  have hwh := all14 HR1.out (.int .i64 0) (.int .i64 0) (.slice none 0 0) (.slice none 0 0) (.int .i64 0) (.int .i64 0) (.int .u16 0) (.int .u16 0) (.int .u16 0) (.int .i64 0) (.int .i64 0) (.bool false) (.int .i64 0) (.slice none 0 0) rfl
  rw [hw9] at hwh
  have hbb : Below w.heap.size w w9 := by
    rw [← hw9]
    exact ((((((((((((((HB1.out.setCell (p := ⟨w.heap.size + 1, 0, none⟩) (Nat.le_succ _) _).setCell (p := ⟨w.heap.size + 1, 1, none⟩) (Nat.le_succ _) _).setCell (p := ⟨w.heap.size + 1, 2, none⟩) (Nat.le_succ _) _).setCell (p := ⟨w.heap.size + 1, 3, none⟩) (Nat.le_succ _) _).setCell (p := ⟨w.heap.size + 1, 4, none⟩) (Nat.le_succ _) _).setCell (p := ⟨w.heap.size + 1, 5, none⟩) (Nat.le_succ _) _).setCell (p := ⟨w.heap.size + 1, 6, none⟩) (Nat.le_succ _) _).setCell (p := ⟨w.heap.size + 1, 7, none⟩) (Nat.le_succ _) _).setCell (p := ⟨w.heap.size + 1, 8, none⟩) (Nat.le_succ _) _).setCell (p := ⟨w.heap.size + 1, 9, none⟩) (Nat.le_succ _) _).setCell (p := ⟨w.heap.size + 1, 10, none⟩) (Nat.le_succ _) _).setCell (p := ⟨w.heap.size + 1, 11, none⟩) (Nat.le_succ _) _).setCell (p := ⟨w.heap.size + 1, 12, none⟩) (Nat.le_succ _) _).setCell (p := ⟨w.heap.size + 1, 13, none⟩) (Nat.le_succ _) _)
  rw [hw9]
  obtain ⟨he0, he1, he2, he3, he4, he5, he6, he7, he8, he9, he10, he11, he12, he13⟩ := cells14 hwh
  exact bodyPost_ret (v := .agg #[.int .i64 0, .int .i64 0, .slice none 0 0, .slice none 0 0, .int .i64 0, .int .i64 0, .int .u16 0, .int .u16 0, .int .u16 0, .int .i64 0, .int .i64 0, .bool false, .int .i64 0, .slice none 0 0]) (by simp [results, Try.results51, go_sem, he0, he1, he2, he3, he4, he5, he6, he7, he8, he9, he10, he11, he12, he13]) rfl ⟨rfl, hbb⟩

set_option maxRecDepth 100000 in
set_option maxHeartbeats 1000000 in
theorem recho_23 (at_ n v an orr : Int) (bl wl : Nat) (ra rn co ob : Int) (BA WA : Option Addr) (bc wc : Nat) (w : World) (h : rightP 23 at_ n v an orr bl wl ra rn co ob) :
    Calls Try.prog 51 #[.agg #[.int .i64 23, .int .i64 at_, .int .i64 n, .int .u16 v, .int .u16 an, .int .u16 orr, .slice BA bl bc, .slice WA wl wc, .int .i64 ra, .int .i64 rn, .int .i64 co, .int .i64 ob]] w fun e w' => e = .returned (.agg #[.int .i64 0, .int .i64 0, .slice none 0 0, .slice none 0 0, .int .i64 0, .int .i64 0, .int .u16 0, .int .u16 0, .int .u16 0, .int .i64 0, .int .i64 0, .bool false, .int .i64 0, .slice none 0 0]) ∧ Below w.heap.size w w' := by
  have H1 := Lib.hid (decide_eq_true h)
  clear h
  have hkw : Below w.heap.size w ((w.alloc (.cells #[.int .i64 23, .int .i64 at_, .int .i64 n, .int .u16 v, .int .u16 an, .int .u16 orr, .slice BA bl bc, .slice WA wl wc, .int .i64 ra, .int .i64 rn, .int .i64 co, .int .i64 ob] 26)).alloc (.cells #[.int .i64 0, .int .i64 0, .slice none 0 0, .slice none 0 0, .int .i64 0, .int .i64 0, .int .u16 0, .int .u16 0, .int .u16 0, .int .i64 0, .int .i64 0, .bool false, .int .i64 0, .slice none 0 0] 64)) := ((Below.refl _ _).alloc (Nat.le_refl _) _).alloc (by simp) _
  have hR : WholeV ((w.alloc (.cells #[.int .i64 23, .int .i64 at_, .int .i64 n, .int .u16 v, .int .u16 an, .int .u16 orr, .slice BA bl bc, .slice WA wl wc, .int .i64 ra, .int .i64 rn, .int .i64 co, .int .i64 ob] 26)).alloc (.cells #[.int .i64 0, .int .i64 0, .slice none 0 0, .slice none 0 0, .int .i64 0, .int .i64 0, .int .u16 0, .int .u16 0, .int .u16 0, .int .i64 0, .int .i64 0, .bool false, .int .i64 0, .slice none 0 0] 64)) (w.heap.size + 1) 64 [.int .i64 0, .int .i64 0, .slice none 0 0, .slice none 0 0, .int .i64 0, .int .i64 0, .int .u16 0, .int .u16 0, .int .u16 0, .int .i64 0, .int .i64 0, .bool false, .int .i64 0, .slice none 0 0] := by
    have h := heap_alloc_new (w.alloc (.cells #[.int .i64 23, .int .i64 at_, .int .i64 n, .int .u16 v, .int .u16 an, .int .u16 orr, .slice BA bl bc, .slice WA wl wc, .int .i64 ra, .int .i64 rn, .int .i64 co, .int .i64 ob] 26)) (.cells #[.int .i64 0, .int .i64 0, .slice none 0 0, .slice none 0 0, .int .i64 0, .int .i64 0, .int .u16 0, .int .u16 0, .int .u16 0, .int .i64 0, .int .i64 0, .bool false, .int .i64 0, .slice none 0 0] 64)
    rwa [show (w.alloc (.cells #[.int .i64 23, .int .i64 at_, .int .i64 n, .int .u16 v, .int .u16 an, .int .u16 orr, .slice BA bl bc, .slice WA wl wc, .int .i64 ra, .int .i64 rn, .int .i64 co, .int .i64 ob] 26)).heap.size = w.heap.size + 1 by simp] at h
  have hA : WholeV ((w.alloc (.cells #[.int .i64 23, .int .i64 at_, .int .i64 n, .int .u16 v, .int .u16 an, .int .u16 orr, .slice BA bl bc, .slice WA wl wc, .int .i64 ra, .int .i64 rn, .int .i64 co, .int .i64 ob] 26)).alloc (.cells #[.int .i64 0, .int .i64 0, .slice none 0 0, .slice none 0 0, .int .i64 0, .int .i64 0, .int .u16 0, .int .u16 0, .int .u16 0, .int .i64 0, .int .i64 0, .bool false, .int .i64 0, .slice none 0 0] 64)) w.heap.size 26 [.int .i64 23, .int .i64 at_, .int .i64 n, .int .u16 v, .int .u16 an, .int .u16 orr, .slice BA bl bc, .slice WA wl wc, .int .i64 ra, .int .i64 rn, .int .i64 co, .int .i64 ob] := by
    have h : WholeV (w.alloc (.cells #[.int .i64 23, .int .i64 at_, .int .i64 n, .int .u16 v, .int .u16 an, .int .u16 orr, .slice BA bl bc, .slice WA wl wc, .int .i64 ra, .int .i64 rn, .int .i64 co, .int .i64 ob] 26)) w.heap.size 26 [.int .i64 23, .int .i64 at_, .int .i64 n, .int .u16 v, .int .u16 an, .int .u16 orr, .slice BA bl bc, .slice WA wl wc, .int .i64 ra, .int .i64 rn, .int .i64 co, .int .i64 ob] := heap_alloc_new w _
    exact h.below ((Below.refl _ _).alloc (Nat.le_refl _) _) (by simp)
  have HKW := Lib.hid hkw
  have HR := Lib.hid hR
  have HA := Lib.hid hA
  clear hkw hR hA
  go_enter Try.func51, Try.ntmps51
  go_wp2_with fail
  refine (right_litE 23 at_ n v an orr bl wl ra rn co ob BA WA bc wc _ true H1.out).mono ?_
  rintro e w1 ⟨rfl, hb1⟩
  have h1 := HR.out.below hb1 HR.out.lt
  have h3 := HA.out.below hb1 HA.out.lt
  have hy1 : w.heap.size + 1 < w1.heap.size := h1.lt
  obtain ⟨aa0, aa1, aa2, aa3, aa4, aa5, aa6, aa7, aa8, aa9, aa10, aa11⟩ := cells12e h3
  obtain ⟨rr0, rr1, rr2, rr3, rr4, rr5, rr6, rr7, rr8, rr9, rr10, rr11, rr12, rr13⟩ := cells14 h1
  have fa0 := h1.frozen 0
  have fa1 := h1.frozen 1
  have fa2 := h1.frozen 2
  have fa3 := h1.frozen 3
  have fa4 := h1.frozen 4
  have fa5 := h1.frozen 5
  have fa6 := h1.frozen 6
  have fa7 := h1.frozen 7
  have fa8 := h1.frozen 8
  have fa9 := h1.frozen 9
  have fa10 := h1.frozen 10
  have fa11 := h1.frozen 11
  have fa12 := h1.frozen 12
  have fa13 := h1.frozen 13
  have HB1 := Lib.hid (HKW.out.trans (hb1.mono HKW.out.size))
  have HR1 := Lib.hid h1
  clear hb1 h1 h3
  go_wp2_with fail
  obtain ⟨w9, hw9⟩ : ∃ w9, ((((((((((((((w1.setCell ⟨w.heap.size + 1, 0, none⟩ (.int .i64 0)).setCell ⟨w.heap.size + 1, 1, none⟩ (.int .i64 0)).setCell ⟨w.heap.size + 1, 2, none⟩ (.slice none 0 0)).setCell ⟨w.heap.size + 1, 3, none⟩ (.slice none 0 0)).setCell ⟨w.heap.size + 1, 4, none⟩ (.int .i64 0)).setCell ⟨w.heap.size + 1, 5, none⟩ (.int .i64 0)).setCell ⟨w.heap.size + 1, 6, none⟩ (.int .u16 0)).setCell ⟨w.heap.size + 1, 7, none⟩ (.int .u16 0)).setCell ⟨w.heap.size + 1, 8, none⟩ (.int .u16 0)).setCell ⟨w.heap.size + 1, 9, none⟩ (.int .i64 0)).setCell ⟨w.heap.size + 1, 10, none⟩ (.int .i64 0)).setCell ⟨w.heap.size + 1, 11, none⟩ (.bool false)).setCell ⟨w.heap.size + 1, 12, none⟩ (.int .i64 0)).setCell ⟨w.heap.size + 1, 13, none⟩ (.slice none 0 0)) = w9 := ⟨_, rfl⟩
  have hwh := all14 HR1.out (.int .i64 0) (.int .i64 0) (.slice none 0 0) (.slice none 0 0) (.int .i64 0) (.int .i64 0) (.int .u16 0) (.int .u16 0) (.int .u16 0) (.int .i64 0) (.int .i64 0) (.bool false) (.int .i64 0) (.slice none 0 0) rfl
  rw [hw9] at hwh
  have hbb : Below w.heap.size w w9 := by
    rw [← hw9]
    exact ((((((((((((((HB1.out.setCell (p := ⟨w.heap.size + 1, 0, none⟩) (Nat.le_succ _) _).setCell (p := ⟨w.heap.size + 1, 1, none⟩) (Nat.le_succ _) _).setCell (p := ⟨w.heap.size + 1, 2, none⟩) (Nat.le_succ _) _).setCell (p := ⟨w.heap.size + 1, 3, none⟩) (Nat.le_succ _) _).setCell (p := ⟨w.heap.size + 1, 4, none⟩) (Nat.le_succ _) _).setCell (p := ⟨w.heap.size + 1, 5, none⟩) (Nat.le_succ _) _).setCell (p := ⟨w.heap.size + 1, 6, none⟩) (Nat.le_succ _) _).setCell (p := ⟨w.heap.size + 1, 7, none⟩) (Nat.le_succ _) _).setCell (p := ⟨w.heap.size + 1, 8, none⟩) (Nat.le_succ _) _).setCell (p := ⟨w.heap.size + 1, 9, none⟩) (Nat.le_succ _) _).setCell (p := ⟨w.heap.size + 1, 10, none⟩) (Nat.le_succ _) _).setCell (p := ⟨w.heap.size + 1, 11, none⟩) (Nat.le_succ _) _).setCell (p := ⟨w.heap.size + 1, 12, none⟩) (Nat.le_succ _) _).setCell (p := ⟨w.heap.size + 1, 13, none⟩) (Nat.le_succ _) _)
  rw [hw9]
  obtain ⟨he0, he1, he2, he3, he4, he5, he6, he7, he8, he9, he10, he11, he12, he13⟩ := cells14 hwh
  exact bodyPost_ret (v := .agg #[.int .i64 0, .int .i64 0, .slice none 0 0, .slice none 0 0, .int .i64 0, .int .i64 0, .int .u16 0, .int .u16 0, .int .u16 0, .int .i64 0, .int .i64 0, .bool false, .int .i64 0, .slice none 0 0]) (by simp [results, Try.results51, go_sem, he0, he1, he2, he3, he4, he5, he6, he7, he8, he9, he10, he11, he12, he13]) rfl ⟨rfl, hbb⟩

set_option maxRecDepth 100000 in
set_option maxHeartbeats 1000000 in
theorem recho_43 (at_ n v an orr : Int) (bl wl : Nat) (ra rn co ob : Int) (BA WA : Option Addr) (bc wc : Nat) (w : World) (h : rightP 43 at_ n v an orr bl wl ra rn co ob) :
    Calls Try.prog 51 #[.agg #[.int .i64 43, .int .i64 at_, .int .i64 n, .int .u16 v, .int .u16 an, .int .u16 orr, .slice BA bl bc, .slice WA wl wc, .int .i64 ra, .int .i64 rn, .int .i64 co, .int .i64 ob]] w fun e w' => e = .returned (.agg #[.int .i64 0, .int .i64 0, .slice none 0 0, .slice none 0 0, .int .i64 0, .int .i64 0, .int .u16 0, .int .u16 0, .int .u16 0, .int .i64 0, .int .i64 0, .bool false, .int .i64 0, .slice none 0 0]) ∧ Below w.heap.size w w' := by
  have H1 := Lib.hid (decide_eq_true h)
  clear h
  have hkw : Below w.heap.size w ((w.alloc (.cells #[.int .i64 43, .int .i64 at_, .int .i64 n, .int .u16 v, .int .u16 an, .int .u16 orr, .slice BA bl bc, .slice WA wl wc, .int .i64 ra, .int .i64 rn, .int .i64 co, .int .i64 ob] 26)).alloc (.cells #[.int .i64 0, .int .i64 0, .slice none 0 0, .slice none 0 0, .int .i64 0, .int .i64 0, .int .u16 0, .int .u16 0, .int .u16 0, .int .i64 0, .int .i64 0, .bool false, .int .i64 0, .slice none 0 0] 64)) := ((Below.refl _ _).alloc (Nat.le_refl _) _).alloc (by simp) _
  have hR : WholeV ((w.alloc (.cells #[.int .i64 43, .int .i64 at_, .int .i64 n, .int .u16 v, .int .u16 an, .int .u16 orr, .slice BA bl bc, .slice WA wl wc, .int .i64 ra, .int .i64 rn, .int .i64 co, .int .i64 ob] 26)).alloc (.cells #[.int .i64 0, .int .i64 0, .slice none 0 0, .slice none 0 0, .int .i64 0, .int .i64 0, .int .u16 0, .int .u16 0, .int .u16 0, .int .i64 0, .int .i64 0, .bool false, .int .i64 0, .slice none 0 0] 64)) (w.heap.size + 1) 64 [.int .i64 0, .int .i64 0, .slice none 0 0, .slice none 0 0, .int .i64 0, .int .i64 0, .int .u16 0, .int .u16 0, .int .u16 0, .int .i64 0, .int .i64 0, .bool false, .int .i64 0, .slice none 0 0] := by
    have h := heap_alloc_new (w.alloc (.cells #[.int .i64 43, .int .i64 at_, .int .i64 n, .int .u16 v, .int .u16 an, .int .u16 orr, .slice BA bl bc, .slice WA wl wc, .int .i64 ra, .int .i64 rn, .int .i64 co, .int .i64 ob] 26)) (.cells #[.int .i64 0, .int .i64 0, .slice none 0 0, .slice none 0 0, .int .i64 0, .int .i64 0, .int .u16 0, .int .u16 0, .int .u16 0, .int .i64 0, .int .i64 0, .bool false, .int .i64 0, .slice none 0 0] 64)
    rwa [show (w.alloc (.cells #[.int .i64 43, .int .i64 at_, .int .i64 n, .int .u16 v, .int .u16 an, .int .u16 orr, .slice BA bl bc, .slice WA wl wc, .int .i64 ra, .int .i64 rn, .int .i64 co, .int .i64 ob] 26)).heap.size = w.heap.size + 1 by simp] at h
  have hA : WholeV ((w.alloc (.cells #[.int .i64 43, .int .i64 at_, .int .i64 n, .int .u16 v, .int .u16 an, .int .u16 orr, .slice BA bl bc, .slice WA wl wc, .int .i64 ra, .int .i64 rn, .int .i64 co, .int .i64 ob] 26)).alloc (.cells #[.int .i64 0, .int .i64 0, .slice none 0 0, .slice none 0 0, .int .i64 0, .int .i64 0, .int .u16 0, .int .u16 0, .int .u16 0, .int .i64 0, .int .i64 0, .bool false, .int .i64 0, .slice none 0 0] 64)) w.heap.size 26 [.int .i64 43, .int .i64 at_, .int .i64 n, .int .u16 v, .int .u16 an, .int .u16 orr, .slice BA bl bc, .slice WA wl wc, .int .i64 ra, .int .i64 rn, .int .i64 co, .int .i64 ob] := by
    have h : WholeV (w.alloc (.cells #[.int .i64 43, .int .i64 at_, .int .i64 n, .int .u16 v, .int .u16 an, .int .u16 orr, .slice BA bl bc, .slice WA wl wc, .int .i64 ra, .int .i64 rn, .int .i64 co, .int .i64 ob] 26)) w.heap.size 26 [.int .i64 43, .int .i64 at_, .int .i64 n, .int .u16 v, .int .u16 an, .int .u16 orr, .slice BA bl bc, .slice WA wl wc, .int .i64 ra, .int .i64 rn, .int .i64 co, .int .i64 ob] := heap_alloc_new w _
    exact h.below ((Below.refl _ _).alloc (Nat.le_refl _) _) (by simp)
  have HKW := Lib.hid hkw
  have HR := Lib.hid hR
  have HA := Lib.hid hA
  clear hkw hR hA
  go_enter Try.func51, Try.ntmps51
  go_wp2_with fail
  refine (right_litE 43 at_ n v an orr bl wl ra rn co ob BA WA bc wc _ true H1.out).mono ?_
  rintro e w1 ⟨rfl, hb1⟩
  have h1 := HR.out.below hb1 HR.out.lt
  have h3 := HA.out.below hb1 HA.out.lt
  have hy1 : w.heap.size + 1 < w1.heap.size := h1.lt
  obtain ⟨aa0, aa1, aa2, aa3, aa4, aa5, aa6, aa7, aa8, aa9, aa10, aa11⟩ := cells12e h3
  obtain ⟨rr0, rr1, rr2, rr3, rr4, rr5, rr6, rr7, rr8, rr9, rr10, rr11, rr12, rr13⟩ := cells14 h1
  have fa0 := h1.frozen 0
  have fa1 := h1.frozen 1
  have fa2 := h1.frozen 2
  have fa3 := h1.frozen 3
  have fa4 := h1.frozen 4
  have fa5 := h1.frozen 5
  have fa6 := h1.frozen 6
  have fa7 := h1.frozen 7
  have fa8 := h1.frozen 8
  have fa9 := h1.frozen 9
  have fa10 := h1.frozen 10
  have fa11 := h1.frozen 11
  have fa12 := h1.frozen 12
  have fa13 := h1.frozen 13
  have HB1 := Lib.hid (HKW.out.trans (hb1.mono HKW.out.size))
  have HR1 := Lib.hid h1
  clear hb1 h1 h3
  go_wp2_with fail
  obtain ⟨w9, hw9⟩ : ∃ w9, ((((((((((((((w1.setCell ⟨w.heap.size + 1, 0, none⟩ (.int .i64 0)).setCell ⟨w.heap.size + 1, 1, none⟩ (.int .i64 0)).setCell ⟨w.heap.size + 1, 2, none⟩ (.slice none 0 0)).setCell ⟨w.heap.size + 1, 3, none⟩ (.slice none 0 0)).setCell ⟨w.heap.size + 1, 4, none⟩ (.int .i64 0)).setCell ⟨w.heap.size + 1, 5, none⟩ (.int .i64 0)).setCell ⟨w.heap.size + 1, 6, none⟩ (.int .u16 0)).setCell ⟨w.heap.size + 1, 7, none⟩ (.int .u16 0)).setCell ⟨w.heap.size + 1, 8, none⟩ (.int .u16 0)).setCell ⟨w.heap.size + 1, 9, none⟩ (.int .i64 0)).setCell ⟨w.heap.size + 1, 10, none⟩ (.int .i64 0)).setCell ⟨w.heap.size + 1, 11, none⟩ (.bool false)).setCell ⟨w.heap.size + 1, 12, none⟩ (.int .i64 0)).setCell ⟨w.heap.size + 1, 13, none⟩ (.slice none 0 0)) = w9 := ⟨_, rfl⟩
  have hwh := all14 HR1.out (.int .i64 0) (.int .i64 0) (.slice none 0 0) (.slice none 0 0) (.int .i64 0) (.int .i64 0) (.int .u16 0) (.int .u16 0) (.int .u16 0) (.int .i64 0) (.int .i64 0) (.bool false) (.int .i64 0) (.slice none 0 0) rfl
  rw [hw9] at hwh
  have hbb : Below w.heap.size w w9 := by
    rw [← hw9]
    exact ((((((((((((((HB1.out.setCell (p := ⟨w.heap.size + 1, 0, none⟩) (Nat.le_succ _) _).setCell (p := ⟨w.heap.size + 1, 1, none⟩) (Nat.le_succ _) _).setCell (p := ⟨w.heap.size + 1, 2, none⟩) (Nat.le_succ _) _).setCell (p := ⟨w.heap.size + 1, 3, none⟩) (Nat.le_succ _) _).setCell (p := ⟨w.heap.size + 1, 4, none⟩) (Nat.le_succ _) _).setCell (p := ⟨w.heap.size + 1, 5, none⟩) (Nat.le_succ _) _).setCell (p := ⟨w.heap.size + 1, 6, none⟩) (Nat.le_succ _) _).setCell (p := ⟨w.heap.size + 1, 7, none⟩) (Nat.le_succ _) _).setCell (p := ⟨w.heap.size + 1, 8, none⟩) (Nat.le_succ _) _).setCell (p := ⟨w.heap.size + 1, 9, none⟩) (Nat.le_succ _) _).setCell (p := ⟨w.heap.size + 1, 10, none⟩) (Nat.le_succ _) _).setCell (p := ⟨w.heap.size + 1, 11, none⟩) (Nat.le_succ _) _).setCell (p := ⟨w.heap.size + 1, 12, none⟩) (Nat.le_succ _) _).setCell (p := ⟨w.heap.size + 1, 13, none⟩) (Nat.le_succ _) _)
  rw [hw9]
  obtain ⟨he0, he1, he2, he3, he4, he5, he6, he7, he8, he9, he10, he11, he12, he13⟩ := cells14 hwh
  exact bodyPost_ret (v := .agg #[.int .i64 0, .int .i64 0, .slice none 0 0, .slice none 0 0, .int .i64 0, .int .i64 0, .int .u16 0, .int .u16 0, .int .u16 0, .int .i64 0, .int .i64 0, .bool false, .int .i64 0, .slice none 0 0]) (by simp [results, Try.results51, go_sem, he0, he1, he2, he3, he4, he5, he6, he7, he8, he9, he10, he11, he12, he13]) rfl ⟨rfl, hbb⟩

end Go.Proofs.Ytijfeffjjcbijaa

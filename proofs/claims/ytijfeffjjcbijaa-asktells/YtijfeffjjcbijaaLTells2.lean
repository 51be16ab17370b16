/- busbarlaw5.tells, of a request that is not right. -/
import Derived.Test.YtijfeffjjcbijaaLTells
namespace Go.Proofs.Ytijfeffjjcbijaa
open Go.ChangeShapes Go.WideShapes Go.ChangeAt Go.RowKit
set_option linter.unusedVariables false
set_option linter.unusedSimpArgs false

set_option maxRecDepth 100000 in
set_option maxHeartbeats 2000000 in
theorem ltells_no (fn at_ n v an orr : Int) (bs : List Bool) (ws : List Int) (ra rn co ob : Int) (BA WA : Option Addr) (bl wl bc wc : Nat) (w : World) (hwd : Wide at_ n v an orr ra rn co ob) (hrt : ¬ rightP fn at_ n v an orr bl wl ra rn co ob) (hbr : BRow w w.heap.size BA bl bs) (hwr : Row .u16 w w.heap.size WA wl ws) (hxw : Words ws) (hbl : bl ≤ 3000) (hwl : wl ≤ 3000) :
    Calls Try.prog 21 #[.agg #[.int .i64 fn, .int .i64 at_, .int .i64 n, .int .u16 v, .int .u16 an, .int .u16 orr, .slice BA bl bc, .slice WA wl wc, .int .i64 ra, .int .i64 rn, .int .i64 co, .int .i64 ob]] w fun e w' => e = .returned (.bool true) ∧ Below w.heap.size w w' := by
  have HWd := Lib.hid hwd
  have HRt := Lib.hid hrt
  have HXW := Lib.hid hxw
  have hkw : Below w.heap.size w ((w.alloc (.cells #[.int .i64 fn, .int .i64 at_, .int .i64 n, .int .u16 v, .int .u16 an, .int .u16 orr, .slice BA bl bc, .slice WA wl wc, .int .i64 ra, .int .i64 rn, .int .i64 co, .int .i64 ob] 26)).alloc (.cells #[.int .i64 fn, .int .i64 at_, .int .i64 n, .int .u16 v, .int .u16 an, .int .u16 orr, .slice BA bl bc, .slice WA wl wc, .int .i64 ra, .int .i64 rn, .int .i64 co, .int .i64 ob] 26)) := ((Below.refl _ _).alloc (Nat.le_refl _) _).alloc (by simp) _
  have HKW := Lib.hid hkw
  have HBR : Hid (∀ X, Below w.heap.size w X → BRow X X.heap.size BA bl bs) := fun X hX => (hbr.below hX).more hX.size
  have HWR : Hid (∀ X, Below w.heap.size w X → Row .u16 X X.heap.size WA wl ws) := fun X hX => (hwr.below hX).more hX.size
  have hm : WholeV ((w.alloc (.cells #[.int .i64 fn, .int .i64 at_, .int .i64 n, .int .u16 v, .int .u16 an, .int .u16 orr, .slice BA bl bc, .slice WA wl wc, .int .i64 ra, .int .i64 rn, .int .i64 co, .int .i64 ob] 26)).alloc (.cells #[.int .i64 fn, .int .i64 at_, .int .i64 n, .int .u16 v, .int .u16 an, .int .u16 orr, .slice BA bl bc, .slice WA wl wc, .int .i64 ra, .int .i64 rn, .int .i64 co, .int .i64 ob] 26)) (w.heap.size + 1) 26 [.int .i64 fn, .int .i64 at_, .int .i64 n, .int .u16 v, .int .u16 an, .int .u16 orr, .slice BA bl bc, .slice WA wl wc, .int .i64 ra, .int .i64 rn, .int .i64 co, .int .i64 ob] := by
    have h := heap_alloc_new (w.alloc (.cells #[.int .i64 fn, .int .i64 at_, .int .i64 n, .int .u16 v, .int .u16 an, .int .u16 orr, .slice BA bl bc, .slice WA wl wc, .int .i64 ra, .int .i64 rn, .int .i64 co, .int .i64 ob] 26)) (.cells #[.int .i64 fn, .int .i64 at_, .int .i64 n, .int .u16 v, .int .u16 an, .int .u16 orr, .slice BA bl bc, .slice WA wl wc, .int .i64 ra, .int .i64 rn, .int .i64 co, .int .i64 ob] 26)
    rwa [show (w.alloc (.cells #[.int .i64 fn, .int .i64 at_, .int .i64 n, .int .u16 v, .int .u16 an, .int .u16 orr, .slice BA bl bc, .slice WA wl wc, .int .i64 ra, .int .i64 rn, .int .i64 co, .int .i64 ob] 26)).heap.size = w.heap.size + 1 by simp] at h
  have ha : WholeV ((w.alloc (.cells #[.int .i64 fn, .int .i64 at_, .int .i64 n, .int .u16 v, .int .u16 an, .int .u16 orr, .slice BA bl bc, .slice WA wl wc, .int .i64 ra, .int .i64 rn, .int .i64 co, .int .i64 ob] 26)).alloc (.cells #[.int .i64 fn, .int .i64 at_, .int .i64 n, .int .u16 v, .int .u16 an, .int .u16 orr, .slice BA bl bc, .slice WA wl wc, .int .i64 ra, .int .i64 rn, .int .i64 co, .int .i64 ob] 26)) w.heap.size 26 [.int .i64 fn, .int .i64 at_, .int .i64 n, .int .u16 v, .int .u16 an, .int .u16 orr, .slice BA bl bc, .slice WA wl wc, .int .i64 ra, .int .i64 rn, .int .i64 co, .int .i64 ob] := by
    have h : WholeV (w.alloc (.cells #[.int .i64 fn, .int .i64 at_, .int .i64 n, .int .u16 v, .int .u16 an, .int .u16 orr, .slice BA bl bc, .slice WA wl wc, .int .i64 ra, .int .i64 rn, .int .i64 co, .int .i64 ob] 26)) w.heap.size 26 [.int .i64 fn, .int .i64 at_, .int .i64 n, .int .u16 v, .int .u16 an, .int .u16 orr, .slice BA bl bc, .slice WA wl wc, .int .i64 ra, .int .i64 rn, .int .i64 co, .int .i64 ob] := heap_alloc_new w _
    exact h.below ((Below.refl _ _).alloc (Nat.le_refl _) _) (by simp)
  have HM := Lib.hid hm
  have HA := Lib.hid ha
  have HN0 : Hid (∀ X : World, OneRow X none 0 none) := fun _ => rfl
  clear hwd hrt hbr hwr hxw hkw hm ha
  go_enter Try.func21, Try.ntmps21
  go_wp2_with fail
  go_region_with (first
    | (go_at_call 35
       (with_reducible refine (lentbits_g BA bl bc bs _ (HBR.out _ (by first | exact HKW.out.drew | exact below_drewN HKW.out _ | exact HKW.out)) (by omega)).mono ?_)
       rintro e w1 ⟨g1, rfl, ho1, hg1, hb1⟩
       have hb1' := below_from (d := 1) hb1
       have HB1 : Hid (Below w.heap.size w w1) := HKW.out.trans (hb1'.mono HKW.out.size)
       have hm1 := HM.out.below hb1' HM.out.lt
       have ha1 := HA.out.below hb1' HA.out.lt
       obtain ⟨mc0, mc1, mc2, mc3, mc4, mc5, mc6, mc7, mc8, mc9, mc10, mc11⟩ := cells12 hm1
       obtain ⟨nc0, nc1, nc2, nc3, nc4, nc5, nc6, nc7, nc8, nc9, nc10, nc11⟩ := cells12 ha1
       have hz1 : w.heap.size + 1 < w1.heap.size := hm1.lt
       have HM1 := Lib.hid hm1
       have HA1 := Lib.hid ha1
       have HO1 := Lib.hid ho1
       have HG1 : Hid (w.heap.size + 2 ≤ g1) := by simp at hg1; exact hg1
       clear ho1 hb1 hb1' hm1 ha1 hg1)
    | (go_at_call 36
       (with_reducible refine (lentw_g WA wl wc ws _ (HWR.out _ (by first | exact HB1.out.drew | exact below_drewN HB1.out _ | exact HB1.out)) (by omega)).mono ?_)
       rintro e w2 ⟨g2, rfl, ho2, hg2, hb2⟩
       have hb2' : Below w1.heap.size w1 w2 := by first | exact hb2 | exact below_from (d := 1) hb2
       have HB2 : Hid (Below w.heap.size w w2) := HB1.out.trans (hb2'.mono HB1.out.size)
       have hm2 := HM1.out.below hb2' HM1.out.lt
       have ha2 := HA1.out.below hb2' HA1.out.lt
       have ho12 := HO1.out.below hb2' HO1.out.lt
       obtain ⟨sc0, sc1, sc2, sc3, sc4, sc5, sc6, sc7, sc8, sc9, sc10, sc11⟩ := cells12 hm2
       obtain ⟨tc0, tc1, tc2, tc3, tc4, tc5, tc6, tc7, tc8, tc9, tc10, tc11⟩ := cells12 ha2
       obtain ⟨fc0, fc1, fc2, fc3, fc4, fc5, fc6, fc7, fc8, fc9, fc10, fc11⟩ := frozen12 hm2
       have hz2 : w.heap.size + 1 < w2.heap.size := hm2.lt
       have HM2 := Lib.hid hm2
       have HA2 := Lib.hid ha2
       have HO2 := Lib.hid ho2
       have HO12 := Lib.hid ho12
       have HG2 : Hid (w1.heap.size ≤ g2) := hg2
       have HL1 := Lib.hid HO1.out.lt
       clear ho2 hb2 hb2' hm2 ha2 hg2 ho12))
  all_goals
    first
      | (obtain ⟨W, hW⟩ : ∃ W, ((w2.setCell ⟨w.heap.size + 1, 6, none⟩ (.slice (some ⟨g1, 0, none⟩) bl (bl + 3))).setCell ⟨w.heap.size + 1, 7, none⟩ (.slice (some ⟨g2, 0, none⟩) wl (wl + 3))) = W := ⟨_, rfl⟩
         have hbW : Below (w.heap.size + 1) w2 W := by rw [← hW]; exact ((Below.refl (w.heap.size + 1) w2).setCell (p := ⟨w.heap.size + 1, 6, none⟩) (Nat.le_refl _) _).setCell (p := ⟨w.heap.size + 1, 7, none⟩) (Nat.le_refl _) _
         have hmW : WholeV W (w.heap.size + 1) 26 [.int .i64 fn, .int .i64 at_, .int .i64 n, .int .u16 v, .int .u16 an, .int .u16 orr, .slice (some ⟨g1, 0, none⟩) bl (bl + 3), .slice (some ⟨g2, 0, none⟩) wl (wl + 3), .int .i64 ra, .int .i64 rn, .int .i64 co, .int .i64 ob] := by rw [← hW]; exact (HM2.out.set 6 _).set 7 _
         have h1W : WholeV W g1 4 ((bs ++ [true, true, true]).map Value.bool) := by rw [← hW]; exact whole_far (whole_far HO12.out ⟨w.heap.size + 1, 6, none⟩ _ (by have := HG1.out; show w.heap.size + 1 ≠ g1; omega)) ⟨w.heap.size + 1, 7, none⟩ _ (by have := HG1.out; show w.heap.size + 1 ≠ g1; omega)
         have h2W : Whole .u16 W g2 22 (ws ++ [42405, 42405, 42405]) := by rw [← hW]; exact whole_far (whole_far HO2.out ⟨w.heap.size + 1, 6, none⟩ _ (by have := HG2.out; show w.heap.size + 1 ≠ g2; omega)) ⟨w.heap.size + 1, 7, none⟩ _ (by have := HG2.out; show w.heap.size + 1 ≠ g2; omega)
         rw [hW]
         clear hW)
      | (obtain ⟨W, hW⟩ : ∃ W, ((w2.setCell ⟨w.heap.size + 1, 7, none⟩ (.slice (some ⟨g2, 0, none⟩) wl (wl + 3))).setCell ⟨w.heap.size + 1, 6, none⟩ (.slice (some ⟨g1, 0, none⟩) bl (bl + 3))) = W := ⟨_, rfl⟩
         have hbW : Below (w.heap.size + 1) w2 W := by rw [← hW]; exact ((Below.refl (w.heap.size + 1) w2).setCell (p := ⟨w.heap.size + 1, 7, none⟩) (Nat.le_refl _) _).setCell (p := ⟨w.heap.size + 1, 6, none⟩) (Nat.le_refl _) _
         have hmW : WholeV W (w.heap.size + 1) 26 [.int .i64 fn, .int .i64 at_, .int .i64 n, .int .u16 v, .int .u16 an, .int .u16 orr, .slice (some ⟨g1, 0, none⟩) bl (bl + 3), .slice (some ⟨g2, 0, none⟩) wl (wl + 3), .int .i64 ra, .int .i64 rn, .int .i64 co, .int .i64 ob] := by rw [← hW]; exact (HM2.out.set 7 _).set 6 _
         have h1W : WholeV W g1 4 ((bs ++ [true, true, true]).map Value.bool) := by rw [← hW]; exact whole_far (whole_far HO12.out ⟨w.heap.size + 1, 7, none⟩ _ (by have := HG1.out; show w.heap.size + 1 ≠ g1; omega)) ⟨w.heap.size + 1, 6, none⟩ _ (by have := HG1.out; show w.heap.size + 1 ≠ g1; omega)
         have h2W : Whole .u16 W g2 22 (ws ++ [42405, 42405, 42405]) := by rw [← hW]; exact whole_far (whole_far HO2.out ⟨w.heap.size + 1, 7, none⟩ _ (by have := HG2.out; show w.heap.size + 1 ≠ g2; omega)) ⟨w.heap.size + 1, 6, none⟩ _ (by have := HG2.out; show w.heap.size + 1 ≠ g2; omega)
         rw [hW]
         clear hW)
    have HBW : Hid (Below w.heap.size w W) := HB2.out.trans (hbW.mono (Nat.le_succ _))
    have HMW := Lib.hid hmW
    have HAW := Lib.hid (HA2.out.below hbW (Nat.lt_succ_self _))
    have H1W := Lib.hid h1W
    have H2W := Lib.hid h2W
    have HBB : Hid (BRow W W.heap.size (some ⟨g1, 0, none⟩) bl bs) := by
      have h := H1W.out.row
      rw [List.length_map, List.length_append, (HBR.out _ HBW.out).1] at h
      exact h.bools.front (HBR.out _ HBW.out).1
    have HWW : Hid (Row .u16 W W.heap.size (some ⟨g2, 0, none⟩) wl ws) := by
      have h := H2W.out.row
      rw [List.length_append, (HWR.out _ HBW.out).1] at h
      exact h.front (HWR.out _ HBW.out).1
    have hyW : w.heap.size + 1 < W.heap.size := hmW.lt
    obtain ⟨pw0, pw1, pw2, pw3, pw4, pw5, pw6, pw7, pw8, pw9, pw10, pw11⟩ := cells12 hmW
    obtain ⟨qw0, qw1, qw2, qw3, qw4, qw5, qw6, qw7, qw8, qw9, qw10, qw11⟩ := cells12 HAW.out
    clear hbW hmW h1W h2W
    go_wp2_with fail
    refine (pbytes_no fn at_ n v an orr bl wl ra rn co ob (some ⟨g1, 0, none⟩) (some ⟨g2, 0, none⟩) (bl + 3) (wl + 3) _ HWd.out HRt.out).mono ?_
    rintro e W3 ⟨rfl, hb⟩
    have HB3 : Hid (Below W.heap.size W W3) := hb
    clear hb
    have hm3 := HMW.out.below HB3.out HMW.out.lt
    have ha3 := HAW.out.below HB3.out HAW.out.lt
    have hy3 : w.heap.size + 1 < W3.heap.size := hm3.lt
    obtain ⟨p3_0, p3_1, p3_2, p3_3, p3_4, p3_5, p3_6, p3_7, p3_8, p3_9, p3_10, p3_11⟩ := cells12 hm3
    obtain ⟨q3_0, q3_1, q3_2, q3_3, q3_4, q3_5, q3_6, q3_7, q3_8, q3_9, q3_10, q3_11⟩ := cells12 ha3
    clear hm3 ha3
    go_wp2_with fail
    refine (rbytes_no fn at_ n v an orr bl wl ra rn co ob BA WA bc wc _ HRt.out).mono ?_
    rintro e W4 ⟨rfl, hb⟩
    have HB4 : Hid (Below W.heap.size W W4) := HB3.out.trans (hb.mono HB3.out.size)
    clear hb
    have hm4 := HMW.out.below HB4.out HMW.out.lt
    have ha4 := HAW.out.below HB4.out HAW.out.lt
    have hy4 : w.heap.size + 1 < W4.heap.size := hm4.lt
    obtain ⟨p4_0, p4_1, p4_2, p4_3, p4_4, p4_5, p4_6, p4_7, p4_8, p4_9, p4_10, p4_11⟩ := cells12 hm4
    obtain ⟨q4_0, q4_1, q4_2, q4_3, q4_4, q4_5, q4_6, q4_7, q4_8, q4_9, q4_10, q4_11⟩ := cells12 ha4
    clear hm4 ha4
    go_wp2_with fail
    refine (pspans_no fn at_ n v an orr bl wl ra rn co ob (some ⟨g1, 0, none⟩) (some ⟨g2, 0, none⟩) (bl + 3) (wl + 3) _ HWd.out HRt.out).mono ?_
    rintro e W5 ⟨rfl, hb⟩
    have HB5 : Hid (Below W.heap.size W W5) := HB4.out.trans (hb.mono HB4.out.size)
    clear hb
    have hm5 := HMW.out.below HB5.out HMW.out.lt
    have ha5 := HAW.out.below HB5.out HAW.out.lt
    have hy5 : w.heap.size + 1 < W5.heap.size := hm5.lt
    obtain ⟨p5_0, p5_1, p5_2, p5_3, p5_4, p5_5, p5_6, p5_7, p5_8, p5_9, p5_10, p5_11⟩ := cells12 hm5
    obtain ⟨q5_0, q5_1, q5_2, q5_3, q5_4, q5_5, q5_6, q5_7, q5_8, q5_9, q5_10, q5_11⟩ := cells12 ha5
    clear hm5 ha5
    go_wp2_with fail
    refine (rspans_no fn at_ n v an orr bl wl ra rn co ob BA WA bc wc _ HRt.out).mono ?_
    rintro e W6 ⟨rfl, hb⟩
    have HB6 : Hid (Below W.heap.size W W6) := HB5.out.trans (hb.mono HB5.out.size)
    clear hb
    have hm6 := HMW.out.below HB6.out HMW.out.lt
    have ha6 := HAW.out.below HB6.out HAW.out.lt
    have hy6 : w.heap.size + 1 < W6.heap.size := hm6.lt
    obtain ⟨p6_0, p6_1, p6_2, p6_3, p6_4, p6_5, p6_6, p6_7, p6_8, p6_9, p6_10, p6_11⟩ := cells12 hm6
    obtain ⟨q6_0, q6_1, q6_2, q6_3, q6_4, q6_5, q6_6, q6_7, q6_8, q6_9, q6_10, q6_11⟩ := cells12 ha6
    clear hm6 ha6
    have KS : Hid (∀ X, Below W6.heap.size W6 X → (X.cell? ⟨w.heap.size + 1, 0, none⟩ = some (.int .i64 fn) ∧ X.cell? ⟨w.heap.size + 1, 1, none⟩ = some (.int .i64 at_) ∧ X.cell? ⟨w.heap.size + 1, 2, none⟩ = some (.int .i64 n) ∧ X.cell? ⟨w.heap.size + 1, 3, none⟩ = some (.int .u16 v) ∧ X.cell? ⟨w.heap.size + 1, 4, none⟩ = some (.int .u16 an) ∧ X.cell? ⟨w.heap.size + 1, 5, none⟩ = some (.int .u16 orr) ∧ X.cell? ⟨w.heap.size + 1, 6, none⟩ = some (.slice (some ⟨g1, 0, none⟩) bl (bl + 3)) ∧ X.cell? ⟨w.heap.size + 1, 7, none⟩ = some (.slice (some ⟨g2, 0, none⟩) wl (wl + 3)) ∧ X.cell? ⟨w.heap.size + 1, 8, none⟩ = some (.int .i64 ra) ∧ X.cell? ⟨w.heap.size + 1, 9, none⟩ = some (.int .i64 rn) ∧ X.cell? ⟨w.heap.size + 1, 10, none⟩ = some (.int .i64 co) ∧ X.cell? ⟨w.heap.size + 1, 11, none⟩ = some (.int .i64 ob) ∧ X.cell? ⟨w.heap.size, 0, none⟩ = some (.int .i64 fn) ∧ X.cell? ⟨w.heap.size, 1, none⟩ = some (.int .i64 at_) ∧ X.cell? ⟨w.heap.size, 2, none⟩ = some (.int .i64 n) ∧ X.cell? ⟨w.heap.size, 3, none⟩ = some (.int .u16 v) ∧ X.cell? ⟨w.heap.size, 4, none⟩ = some (.int .u16 an) ∧ X.cell? ⟨w.heap.size, 5, none⟩ = some (.int .u16 orr) ∧ X.cell? ⟨w.heap.size, 6, none⟩ = some (.slice BA bl bc) ∧ X.cell? ⟨w.heap.size, 7, none⟩ = some (.slice WA wl wc) ∧ X.cell? ⟨w.heap.size, 8, none⟩ = some (.int .i64 ra) ∧ X.cell? ⟨w.heap.size, 9, none⟩ = some (.int .i64 rn) ∧ X.cell? ⟨w.heap.size, 10, none⟩ = some (.int .i64 co) ∧ X.cell? ⟨w.heap.size, 11, none⟩ = some (.int .i64 ob) ∧ (convert 33 9 (.slice none 0 0)).run Try.prog X = .ok (.string (strOfNums [])) X ∧ (convert 33 9 (.slice none 0 0)).run Try.prog X = .ok (.string (strOfNums [])) X ∧ Below W6.heap.size W6 X)) := by
      intro X hX
      have hb := HB6.out.trans (hX.mono HB6.out.size)
      obtain ⟨m0, m1, m2, m3, m4, m5, m6, m7, m8, m9, m10, m11⟩ := cells12 (HMW.out.below hb HMW.out.lt)
      obtain ⟨o0, o1, o2, o3, o4, o5, o6, o7, o8, o9, o10, o11⟩ := cells12 (HAW.out.below hb HAW.out.lt)
      exact ⟨m0, m1, m2, m3, m4, m5, m6, m7, m8, m9, m10, m11, o0, o1, o2, o3, o4, o5, o6, o7, o8, o9, o10, o11, conv_row none 0 0 [] X (Row.nil _ _ _ _), conv_row none 0 0 [] X (Row.nil _ _ _ _), hX⟩
    go_wp2_with fail
    go_region_held3 (fun X => X.cell? ⟨w.heap.size + 1, 0, none⟩ = some (.int .i64 fn) ∧ X.cell? ⟨w.heap.size + 1, 1, none⟩ = some (.int .i64 at_) ∧ X.cell? ⟨w.heap.size + 1, 2, none⟩ = some (.int .i64 n) ∧ X.cell? ⟨w.heap.size + 1, 3, none⟩ = some (.int .u16 v) ∧ X.cell? ⟨w.heap.size + 1, 4, none⟩ = some (.int .u16 an) ∧ X.cell? ⟨w.heap.size + 1, 5, none⟩ = some (.int .u16 orr) ∧ X.cell? ⟨w.heap.size + 1, 6, none⟩ = some (.slice (some ⟨g1, 0, none⟩) bl (bl + 3)) ∧ X.cell? ⟨w.heap.size + 1, 7, none⟩ = some (.slice (some ⟨g2, 0, none⟩) wl (wl + 3)) ∧ X.cell? ⟨w.heap.size + 1, 8, none⟩ = some (.int .i64 ra) ∧ X.cell? ⟨w.heap.size + 1, 9, none⟩ = some (.int .i64 rn) ∧ X.cell? ⟨w.heap.size + 1, 10, none⟩ = some (.int .i64 co) ∧ X.cell? ⟨w.heap.size + 1, 11, none⟩ = some (.int .i64 ob) ∧ X.cell? ⟨w.heap.size, 0, none⟩ = some (.int .i64 fn) ∧ X.cell? ⟨w.heap.size, 1, none⟩ = some (.int .i64 at_) ∧ X.cell? ⟨w.heap.size, 2, none⟩ = some (.int .i64 n) ∧ X.cell? ⟨w.heap.size, 3, none⟩ = some (.int .u16 v) ∧ X.cell? ⟨w.heap.size, 4, none⟩ = some (.int .u16 an) ∧ X.cell? ⟨w.heap.size, 5, none⟩ = some (.int .u16 orr) ∧ X.cell? ⟨w.heap.size, 6, none⟩ = some (.slice BA bl bc) ∧ X.cell? ⟨w.heap.size, 7, none⟩ = some (.slice WA wl wc) ∧ X.cell? ⟨w.heap.size, 8, none⟩ = some (.int .i64 ra) ∧ X.cell? ⟨w.heap.size, 9, none⟩ = some (.int .i64 rn) ∧ X.cell? ⟨w.heap.size, 10, none⟩ = some (.int .i64 co) ∧ X.cell? ⟨w.heap.size, 11, none⟩ = some (.int .i64 ob) ∧ (convert 33 9 (.slice none 0 0)).run Try.prog X = .ok (.string (strOfNums [])) X ∧ (convert 33 9 (.slice none 0 0)).run Try.prog X = .ok (.string (strOfNums [])) X ∧ Below W6.heap.size W6 X)
      (first
        | exact KS.out _ (Below.refl _ _).drew
        | exact KS.out _ hb8
        | exact KS.out _ hb7
        | exact KS.out _ (below_drewN hb8 _))
      (first
        | (go_at_call 28
           (with_reducible refine (pright_no fn at_ n v an orr bl wl ra rn co ob (some ⟨g1, 0, none⟩) (some ⟨g2, 0, none⟩) (bl + 3) (wl + 3) _ HWd.out HRt.out).mono ?_)
           rintro e W7 ⟨rfl, hb7'⟩
           have hb7 : Below W6.heap.size W6 W7 := by first | exact below_from (d := 1) hb7' | exact hb7'
           clear hb7')
        | (go_at_call 58
           (with_reducible refine (right_no fn at_ n v an orr bl wl ra rn co ob BA WA bc wc _ HRt.out).mono ?_)
           rintro e W8 ⟨rfl, hb8'⟩
           have hb8 : Below W6.heap.size W6 W8 := hb7.trans (hb8'.mono hb7.size)
           clear hb8')
        | (go_at_call 59
           (with_reducible refine (samespans_yes none none 0 0 0 none _ (HN0.out _) (HN0.out _)).mono ?_)
           rintro e w' ⟨rfl, e1, rfl⟩)
        | (go_at_call 42
           (with_reducible refine (staysbits_kept BA bl bc g1 bs W _ (HBR.out _ HBW.out) H1W.out (by omega) (by first | exact HB6.out.trans (hb8.mono HB6.out.size) | exact below_drewN (HB6.out.trans (hb8.mono HB6.out.size)) _)).mono ?_)
           rintro e w' ⟨rfl, e3, rfl⟩)
        | (go_at_call 43
           (with_reducible refine (staysw_kept WA wl wc g2 ws W _ (HWR.out _ HBW.out) H2W.out (by omega) (by first | exact HB6.out.trans (hb8.mono HB6.out.size) | exact below_drewN (HB6.out.trans (hb8.mono HB6.out.size)) _)).mono ?_)
           rintro e w' ⟨rfl, e4, rfl⟩))
    go_wp2
    go_ret
    exact ⟨rfl, below_drewN (HBW.out.trans ((HB6.out.trans (hb8.mono HB6.out.size)).mono HBW.out.size)) _⟩

end Go.Proofs.Ytijfeffjjcbijaa
